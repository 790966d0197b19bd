/-
  A key of the program: whether its depth is at most so much: contract.
  A key's rows as memory made since then; search.ReadSet: contract.
  A flag's name as it stands in a key; the flag that comes next: contracts.
  The flag that comes next: contract.
  Of which kind the key is that comes next: contract. MADE by a script (round 8).
  What the reading of a key answers, as a function of what the reader has left.
  The document's reading of a key, as a function of what the reader has left; it is the program's.
  The reading of a kid: contract, from the reading one deeper.
  The keys of a bracket, gathered: contract.
  The keys of a bracket: contract.
  The reading of a key: what stands while one reads.
  A key of the program: whether it may be: contract.
  The document's reading of a set: contract.
  What a key's set means: the program's Has on a set that an argument's reading reaches; the program's Contains: contracts.
  Whether a key matches, by the program: lists, the closures: contracts. (Made by mkSk7.py.)
-/
import Derived.Test.YtpnnchpaaopdcaaGreatDoorZB04
import Derived.Test.YtpnnchpaaopdcaaGreatDoorZB05
import Derived.Test.YtpnnchpaaopdcaaGreatDoorZB07
import Derived.Test.YtpnnchpaaopdcaaGreatDoorZB06
import Derived.Test.YtpnnchpaaopdcaaGreatDoorZB01
import Derived.Lib.SmallJoins
import Derived.Deep.AppendLies
import Derived.RangeFuncKeeps
import Derived.RangeFuncOwn
import Derived.Deep.CutBlock
set_option linter.unusedVariables false
set_option linter.unusedSimpArgs false
namespace Go.Proofs.YtpnnchpaaopdcaaGreatDoor
open Go Go.RowKit
mutual
def withinK : KT → Int → Bool
  | .mk kind flag set n s kids _ _ _ _, d => decide (0 < d) && withinL kids (d - 1)
def withinL : List KT → Int → Bool
  | [], _ => true
  | k :: r, d => withinK k d && withinL r d
end
theorem withinL_any : ∀ (l : List KT) (d : Int), withinL l d = !(l.any fun x => !withinK x d)
  | [], d => by rw [withinL]; rfl
  | k :: r, d => by rw [withinL, withinL_any r d, List.any_cons]; simp
def nodeK : KT → Bool
  | .mk kind flag set n s kids _ _ _ _ => decide (NodeP kind flag set.length n s.length kids.length)
theorem KeyC.kid {W : World} {kind : Int} {flag n : Nat} {set : List (Nat × Nat)} {s : List UInt8} {kids : List KT} {sp kp : Option Addr} {scap kcap : Nat} (h : KeyC W (.mk kind flag set n s kids sp scap kp kcap)) {x : KT} (hx : x ∈ kids) : KeyC W x := by
  unfold KeyC at h
  obtain ⟨i, hi⟩ := List.getElem?_of_mem hx
  obtain ⟨b, off, _, _, _, hk⟩ := KidsC.at kids kp 0 i x h.2.2.2.2 hi
  exact hk
theorem KeyC.kids {W : World} {kind : Int} {flag n : Nat} {set : List (Nat × Nat)} {s : List UInt8} {kids : List KT} {sp kp : Option Addr} {scap kcap : Nat} (h : KeyC W (.mk kind flag set n s kids sp scap kp kcap)) : KidsC W kids kp 0 ∧ kids.length ≤ maxLen ∧ flag < 256 ∧ n ≤ 4294967295 ∧ set.length ≤ maxLen ∧ s.length ≤ maxLen ∧ PairsAt W sp set := by
  unfold KeyC at h
  exact ⟨h.2.2.2.2, h.2.2.1.2.1, h.1, h.2.1, h.2.2.1.1, h.2.2.1.2.2, h.2.2.2.1⟩
set_option maxRecDepth 100000 in
theorem sWithin1_c (x : KT) (d : Int) (hd : 0 < d) (hd9 : d ≤ 100) (ih : ∀ W, KeyC W x → Calls Tryz.prog 62 #[x.val, .int .i64 (d - 1)] W fun e w' => e = .returned (.bool (withinK x (d - 1))) ∧ Below W.heap.size W w') (P : Nat) (W : World) (hx : KeyC W x)
    (hP : W.cell? ⟨P, 0, none⟩ = some (.int .i64 d)) (hPl : P < W.heap.size) :
    Calls Tryz.prog 118 #[x.val, .pointer (some ⟨P, 0, none⟩)] W fun e w' => e = .returned (.bool (!withinK x (d - 1))) ∧ Below W.heap.size W w' := by
  obtain ⟨yk, yf, ym, yn, yl, ysp, ykp, ysc, ykc, Y, hyv, hyc⟩ := x.form
  have hB : Below W.heap.size W (W.alloc (.cells #[.int .i64 yk, .int .u8 yf, .slice ysp ym ysc, .int .u32 yn, .string Y, .slice ykp yl ykc] 37)) := (Below.refl _ _).alloc (Nat.le_refl _) _
  have C := ih _ (hx.below hB)
  rw [hyv] at C ⊢
  obtain ⟨b, hb⟩ : ∃ b, withinK x (d - 1) = b := ⟨_, rfl⟩
  rw [hb] at C ⊢
  have hP2 : (W.alloc (.cells #[.int .i64 yk, .int .u8 yf, .slice ysp ym ysc, .int .u32 yn, .string Y, .slice ykp yl ykc] 37)).cell? ⟨P, 0, none⟩ = some (.int .i64 d) := (hB.cell (p := ⟨P, 0, none⟩) hPl).trans hP
  have C := Lib.hid C
  have HB := Lib.hid hB
  clear ih hx hyv hyc hb hB
  cases b
  all_goals
    go_enter Tryz.func118, Tryz.ntmps118
    go_wp2_with fail
    refine C.out.mono ?_
    rintro e w2 ⟨rfl, hb2⟩
    have HB2 := Lib.hid (HB.out.trans (hb2.mono (by simp)))
    clear hb2
    go_wp2_with fail
    go_ret
    exact ⟨rfl, HB2.out⟩
set_option maxRecDepth 100000 in
set_option maxHeartbeats 2000000 in
theorem sWithin_c (k : KT) : ∀ (d : Int) (W : World), 0 ≤ d → d ≤ 100 → KeyC W k → Calls Tryz.prog 62 #[k.val, .int .i64 d] W fun e w' => e = .returned (.bool (withinK k d)) ∧ Below W.heap.size W w' := by
  refine KT.ind (P := fun k => ∀ (d : Int) (W : World), 0 ≤ d → d ≤ 100 → KeyC W k → Calls Tryz.prog 62 #[k.val, .int .i64 d] W fun e w' => e = .returned (.bool (withinK k d)) ∧ Below W.heap.size W w') ?_ k
  intro kind flag set n s kids sp scap kp kcap ih d W hd0 hd9 hK
  obtain ⟨hkids, hm, _⟩ := hK.kids
  have hkid : ∀ x ∈ kids, KeyC W x := fun x hx => hK.kid hx
  rw [withinK]
  show Calls Tryz.prog 62 #[.agg #[.int .i64 kind, .int .u8 flag, .slice sp set.length scap, .int .u32 n, .string (txt s), .slice kp kids.length kcap], .int .i64 d] W _
  obtain ⟨M, hM⟩ : ∃ M, set.length = M := ⟨_, rfl⟩
  obtain ⟨X, hX⟩ : ∃ X, txt s = X := ⟨_, rfl⟩
  rw [hM, hX]
  by_cases hd : 0 < d
  · rw [decide_eq_true hd, Bool.true_and, withinL_any]
    have hb2 : Below W.heap.size W ((W.alloc (.cells #[.int .i64 kind, .int .u8 flag, .slice sp M scap, .int .u32 n, .string X, .slice kp kids.length kcap] 37)).alloc (.cells #[.int .i64 d] 3)) := ((Below.refl _ _).alloc (Nat.le_refl _) _).alloc (by simp) _
    have hP : ((W.alloc (.cells #[.int .i64 kind, .int .u8 flag, .slice sp M scap, .int .u32 n, .string X, .slice kp kids.length kcap] 37)).alloc (.cells #[.int .i64 d] 3)).cell? ⟨W.heap.size + 1, 0, none⟩ = some (.int .i64 d) := by
      simp
    obtain ⟨w2, hw2⟩ : ∃ w2, (W.alloc (.cells #[.int .i64 kind, .int .u8 flag, .slice sp M scap, .int .u32 n, .string X, .slice kp kids.length kcap] 37)).alloc (.cells #[.int .i64 d] 3) = w2 := ⟨_, rfl⟩
    have hs2 : w2.heap.size = W.heap.size + 2 := by rw [← hw2]; simp
    rw [hw2] at hb2 hP
    have C := sContainsF_sWithin1_c (W := w2) (kids := kids) (kp := kp) (kcap := kcap) (some ⟨W.heap.size + 1, 0, none⟩) (fun x => !withinK x (d - 1)) (KidsC.below hb2 kids kp 0 hkids) hm (fun x hx W' hW' =>
      sWithin1_c x d hd hd9 (fun W9 h9 => ih x hx (d - 1) W9 (by omega) (by omega) h9) (W.heap.size + 1) W' ((hkid x hx).below (hb2.trans (hW'.mono (by omega)))) ((hW'.cell (p := ⟨W.heap.size + 1, 0, none⟩) (by show W.heap.size + 1 < _; omega)).trans hP) (by have := hW'.size; omega))
    have c5 : w2.cell? ⟨W.heap.size, 5, none⟩ = some (.slice kp kids.length kcap) := by
      have h1 : Box6 (W.alloc (.cells #[.int .i64 kind, .int .u8 flag, .slice sp M scap, .int .u32 n, .string X, .slice kp kids.length kcap] 37)) W.heap.size (.mk kind flag set n s kids sp scap kp kcap) := by
        have := heap_alloc_new W (.cells #[.int .i64 kind, .int .u8 flag, .slice sp M scap, .int .u32 n, .string X, .slice kp kids.length kcap] 37)
        rw [← hM, ← hX] at this ⊢
        exact this
      have h2 := h1.six.2.2.2.2.2
      rw [← hw2]
      exact (((Below.refl _ (W.alloc (.cells #[.int .i64 kind, .int .u8 flag, .slice sp M scap, .int .u32 n, .string X, .slice kp kids.length kcap] 37))).alloc (Nat.le_refl _) (.cells #[.int .i64 d] 3)).cell (p := ⟨W.heap.size, 5, none⟩) (by simp)).trans h2
    obtain ⟨pv, hpv⟩ : ∃ pv, (kids.any fun x => !withinK x (d - 1)) = pv := ⟨_, rfl⟩
    rw [hpv] at C ⊢
    obtain ⟨N, hN⟩ : ∃ N, kids.length = N := ⟨_, rfl⟩
    rw [hN] at C hw2 c5 ⊢
    have C := Lib.hid C
    have HB := Lib.hid hb2
    have HW2 := Lib.hid hw2
    clear ih hK hkids hm hkid hM hX hpv hN hb2 hw2
    cases pv
    all_goals
      go_enter Tryz.func62, Tryz.ntmps62
      go_wp2_with fail
      rw [HW2.out]
      refine C.out.mono ?_
      rintro e w5 ⟨rfl, hb5⟩
      have HB5 := Lib.hid (HB.out.trans (hb5.mono HB.out.size))
      clear hb5
      go_wp2_with fail
      go_ret
      exact ⟨rfl, HB5.out⟩
  · have hde : decide (0 < d) = false := decide_eq_false hd
    rw [hde, Bool.false_and]
    clear ih hK hkids hm hkid hM hX hde
    go_enter Tryz.func62, Tryz.ntmps62
    go_wp2_with fail
    go_ret
    exact ⟨rfl, ((Below.refl _ _).alloc (Nat.le_refl _) _).alloc (by simp) _⟩
variable {W : World} {g : Nat} {s : RS}
def Up (B : Nat) (p : Option Addr) : Prop := ∀ a, p = some a → B ≤ a.block
mutual
def KeyIn (B : Nat) : KT → Prop
  | .mk _ _ _ _ _ kids sp _ kp _ => Up B sp ∧ Up B kp ∧ KidsIn B kids
def KidsIn (B : Nat) : List KT → Prop
  | [] => True
  | k :: r => KeyIn B k ∧ KidsIn B r
end
theorem Up.mono {B C : Nat} {p : Option Addr} (h : Up C p) (hb : B ≤ C) : Up B p := fun a e => Nat.le_trans hb (h a e)
mutual
theorem KeyIn.mono {B C : Nat} (hb : B ≤ C) : ∀ k : KT, KeyIn C k → KeyIn B k
  | .mk _ _ _ _ _ kids sp _ kp _, h => by
    unfold KeyIn at h ⊢
    exact ⟨h.1.mono hb, h.2.1.mono hb, KidsIn.mono hb kids h.2.2⟩
theorem KidsIn.mono {B C : Nat} (hb : B ≤ C) : ∀ r : List KT, KidsIn C r → KidsIn B r
  | [], h => by unfold KidsIn; trivial
  | k :: r, h => by
    unfold KidsIn at h ⊢
    exact ⟨KeyIn.mono hb k h.1, KidsIn.mono hb r h.2⟩
end
def KeepUp (B : Nat) (W W' : World) : Prop := W.heap.size ≤ W'.heap.size ∧ ∀ b, B ≤ b → b < W.heap.size → W'.heap[b]? = W.heap[b]?
theorem KeepUp.cell {B : Nat} {W W' : World} (h : KeepUp B W W') {b o : Nat} (hb : B ≤ b) (hw : b < W.heap.size) : W'.cell? ⟨b, o, none⟩ = W.cell? ⟨b, o, none⟩ := by
  simp only [World.cell?, h.2 b hb hw]
theorem KeepUp.trans {B : Nat} {a b c : World} (h : KeepUp B a b) (h' : KeepUp B b c) : KeepUp B a c := ⟨Nat.le_trans h.1 h'.1, fun k hk hw => (h'.2 k hk (Nat.lt_of_lt_of_le hw h.1)).trans (h.2 k hk hw)⟩
theorem KeepUp.tk {B g : Nat} {a b : World} (h : Tk g a b) (hg : g < B) : KeepUp B a b := ⟨h.size, fun k hk hw => h.blk k hw (by omega)⟩
theorem KeepUp.below {B : Nat} {a b : World} (h : Below a.heap.size a b) : KeepUp B a b := ⟨h.size, fun k _ hw => h.block k hw⟩
theorem KeepUp.set {B g : Nat} (a : World) (i : Nat) (v : Value) (hg : g < B) : KeepUp B a (a.setCell ⟨g, i, none⟩ v) := .tk (Tk.set (g := g) a i v) hg
theorem PairsAt.keep {B : Nat} {W W' : World} {p : Option Addr} {l : List (Nat × Nat)} (h : PairsAt W p l) (hu : Up B p) (hk : KeepUp B W W') : PairsAt W' p l := by
  intro i r hr
  obtain ⟨b, off, e, hlt, h1, h2⟩ := h i r hr
  have hb : B ≤ b := hu _ e
  exact ⟨b, off, e, Nat.lt_of_lt_of_le hlt hk.1, by rw [hk.cell hb hlt]; exact h1, by rw [hk.cell hb hlt]; exact h2⟩
mutual
theorem KeyC.keep {B : Nat} {W W' : World} (hk : KeepUp B W W') : ∀ (k : KT), KeyC W k → KeyIn B k → KeyC W' k
  | .mk kind flag set n s kids sp scap kp kcap, h, hi => by
    unfold KeyC at h ⊢
    unfold KeyIn at hi
    obtain ⟨h2, h3, hm, h4, h5⟩ := h
    exact ⟨h2, h3, hm, h4.keep hi.1 hk, KidsC.keep hk kids kp 0 h5 hi.2.1 hi.2.2⟩
theorem KidsC.keep {B : Nat} {W W' : World} (hk : KeepUp B W W') : ∀ (r : List KT) (kp : Option Addr) (i : Nat), KidsC W r kp i → Up B kp → KidsIn B r → KidsC W' r kp i
  | [], kp, i, h, hu, hi => by unfold KidsC; trivial
  | k :: r, kp, i, h, hu, hi => by
    unfold KidsC at h ⊢
    unfold KidsIn at hi
    obtain ⟨⟨b, off, h1, h2, h3, h4⟩, h5⟩ := h
    have hb : B ≤ b := hu _ h1
    exact ⟨⟨b, off, h1, Nat.lt_of_lt_of_le h2 hk.1, fun j u hj => (hk.cell hb h2).trans (h3 j u hj), KeyC.keep hk k h4 hi.1⟩, KidsC.keep hk r kp (i + 1) h5 hu hi.2⟩
end
theorem own_pairs {B : Nat} {v : Value} {l : List (Nat × Nat)} (h : W.ownsRow B 112 2 v l.length (cellsP l)) : ∃ sp cap, v = .slice sp l.length cap ∧ PairsAt W sp l ∧ Up B sp := by
  rcases h.2 with ⟨h1, h2⟩ | ⟨b, cap, cur, h1, h2⟩
  · have hl : l = [] := List.length_eq_zero_iff.1 h2
    subst hl
    subst h1
    exact ⟨none, 0, rfl, fun i r hr => by simp at hr, fun a e => by simp at e⟩
  · subst h1
    refine ⟨_, cap, rfl, fun i r hr => ?_, fun a e => ?_⟩
    · have hil := (List.getElem?_eq_some_iff.1 hr).1
      have hc := cellsP_at hil
      have hr2 : l[i] = r := (List.getElem?_eq_some_iff.1 hr).2
      rw [hr2] at hc
      exact ⟨b, 0, rfl, (h.lt b rfl).2, by rw [Nat.zero_add, h.cellAt _ (by omega)]; exact hc.1, by rw [Nat.zero_add, h.cellAt _ (by omega)]; exact hc.2⟩
    · cases e; exact (h.lt b rfl).1
def rsetO (s : RS) : Option (List (Nat × Nat)) := (setOf (s.l.takeWhile setB)).bind fun l => if 64 < l.length then none else some l
def rsetV (s : RS) : List (Nat × Nat) := (rsetO s).getD []
def rsetS (s : RS) : RS := if (rsetO s).isSome then skipS setB s else .gone
theorem rsetV_len (s : RS) : (rsetV s).length ≤ 64 := by
  unfold rsetV rsetO
  cases setOf (s.l.takeWhile setB) with
  | none => simp
  | some l =>
    simp only [Option.bind_some]
    split
    · simp
    · simp; omega
def SetDoes (W : World) (g : Nat) (l : List (Nat × Nat)) (s' : RS) (e : Ending) (w' : World) : Prop := (∃ sp cap, e = .returned (.slice sp l.length cap) ∧ PairsAt w' sp l ∧ Up W.heap.size sp) ∧ PR w' g s' ∧ Tk g W w'
set_option maxRecDepth 100000 in
set_option maxHeartbeats 1000000 in
theorem sReadSet_c (h : PR W g s) (hok : s.Ok) (hl : s.l.length ≤ 1100000) (hE : Errs W) (hg : Away g) : Calls Tryz.prog 27 #[pt g] W (SetDoes W g (rsetV s) (rsetS s)) := by
  have C := Lib.hid (tkWhileS_c setB (fun n x hx => sReadSet1_c n x hx W) h hok hl)
  have hle : (s.l.takeWhile setB).length ≤ 1100000 := Nat.le_trans (tw_le _) hl
  unfold rsetV rsetS rsetO
  obtain ⟨a, ha⟩ : ∃ a, s.l.takeWhile setB = a := ⟨_, rfl⟩
  obtain ⟨t, ht⟩ : ∃ t, skipS setB s = t := ⟨_, rfl⟩
  rw [ha] at C hle ⊢
  rw [ht] at C ⊢
  have e1 := txt_size a
  have P := fun w hE => qparse_c (txt a) (by rw [e1]; exact hle) w hE
  rw [data_txt] at P
  obtain ⟨A, hA⟩ : ∃ A, txt a = A := ⟨_, rfl⟩
  rw [hA] at C P e1
  obtain ⟨R, hR⟩ : ∃ R, setOf a = R := ⟨_, rfl⟩
  rw [hR] at P ⊢
  have HP := Lib.hid P
  have HE := Lib.hid hE
  obtain ⟨V, hV⟩ : ∃ V, (R.bind fun l => if 64 < l.length then none else some l) = V := ⟨_, rfl⟩
  rw [hV]
  have HV := Lib.hid hV
  obtain ⟨z, hz⟩ : ∃ z, (if V.isSome = true then t else RS.gone) = z := ⟨_, rfl⟩
  obtain ⟨y, hy⟩ : ∃ y, V.getD [] = y := ⟨_, rfl⟩
  rw [hz, hy]
  have HZ9 := Lib.hid hz
  have HY9 := Lib.hid hy
  clear h P hE ha ht hA hR hV e1 hle hz hy
  have bad : V = none → Hid (∀ W3 : World, PR W3 g .gone → Tk g W W3 → SetDoes W g y z (.returned (.slice none 0 0)) W3) := fun hv W3 h1 h2 => by
    rw [← HY9.out, ← HZ9.out]
    subst hv
    exact ⟨⟨none, 0, rfl, fun i r hr => by simp at hr, fun a e => by simp at e⟩, h1, h2⟩
  have HBAD := Lib.hid bad
  clear bad
  go_enter Tryz.func27, Tryz.ntmps27
  go_wp2_with fail
  refine C.out.mono ?_
  rintro e w1 ⟨rfl, h1, h2⟩
  have H1 := Lib.hid h1
  have H2 := Lib.hid h2
  have CP := Lib.hid (HP.out w1 (HE.out.tk h2 hg))
  have hs1 := h2.size
  clear h1 h2
  go_wp2_with fail
  refine CP.out.mono ?_
  rintro e w2 ⟨hr, hb2⟩
  have HK := Lib.hid (H2.out.trans (Tk.of_below (g := g) hb2))
  have H3 := Lib.hid (H1.out.tk (Tk.of_below (g := g + 1) hb2) (by omega))
  clear hb2 CP
  cases R with
  | none =>
    obtain rfl : e = _ := hr
    have hv : V = none := by rw [← HV.out]; rfl
    have HB := HBAD.out hv
    have C4 := Lib.hid (tkFail_c H3.out)
    clear hv
    go_wp2_with fail
    refine C4.out.mono ?_
    rintro e w3 ⟨rfl, h5, h6⟩
    have HZ := Lib.hid (HB.out w3 h5 (HK.out.trans h6))
    clear h5 h6
    go_wp2_with fail
    go_ret
    exact HZ.out
  | some l =>
    by_cases h64 : 64 < l.length
    · have hr2 : e = .returned (.tuple #[.slice none 0 0, .int .i64 9]) := by
        have : (if 64 < l.length then e = .returned (.tuple #[.slice none 0 0, .int .i64 9]) else ∃ v, e = .returned (.tuple #[v, .int .i64 0]) ∧ w2.ownsRow w1.heap.size 112 2 v l.length (cellsP l)) := hr
        rwa [if_pos h64] at this
      subst hr2
      have hv : V = none := by rw [← HV.out]; simp [h64]
      have HB := HBAD.out hv
      have C4 := Lib.hid (tkFail_c H3.out)
      clear hv hr h64
      go_wp2_with fail
      refine C4.out.mono ?_
      rintro e w3 ⟨rfl, h5, h6⟩
      have HZ := Lib.hid (HB.out w3 h5 (HK.out.trans h6))
      clear h5 h6
      go_wp2_with fail
      go_ret
      exact HZ.out
    · have hr2 : ∃ v, e = .returned (.tuple #[v, .int .i64 0]) ∧ w2.ownsRow w1.heap.size 112 2 v l.length (cellsP l) := by
        have : (if 64 < l.length then e = .returned (.tuple #[.slice none 0 0, .int .i64 9]) else ∃ v, e = .returned (.tuple #[v, .int .i64 0]) ∧ w2.ownsRow w1.heap.size 112 2 v l.length (cellsP l)) := hr
        rwa [if_neg h64] at this
      obtain ⟨v, rfl, ho⟩ := hr2
      have hv : V = some l := by rw [← HV.out]; simp [h64]
      obtain ⟨sp, cap, rfl, hp, hu⟩ := own_pairs ho
      have HZ : Hid (SetDoes W g y z (.returned (.slice sp l.length cap)) w2) := by
        rw [← HY9.out, ← HZ9.out, hv]
        exact ⟨⟨sp, cap, rfl, hp, hu.mono hs1⟩, H3.out, HK.out⟩
      clear hv hr ho hp hu h64
      go_wp2_with fail
      go_ret
      exact HZ.out
end Go.Proofs.YtpnnchpaaopdcaaGreatDoor
namespace Go.Proofs.YtpnnchpaaopdcaaGreatDoor
open Go Go.RowKit
variable {W : World} {g : Nat} {s : RS}
def cutL : List UInt8 := [40, 92, 41]
theorem trim_flag : ∀ i < 5, Lib.trimS ((textOf (2 ^ i)).map upB) cutL = flagT i := by decide +kernel
theorem textOf_len : ∀ i < 5, (textOf (2 ^ i)).length ≤ 20 := by decide +kernel
theorem Tryz.infoAscii : (Tryz.prog.info? 228).map (fun i => (i.zero, i.size)) = some (some (.agg (Array.replicate 256 (.bool false))), 256) := by kernel_rfl
set_option maxRecDepth 20000 in
theorem sNameOf_c (i : Nat) (hi : i < 5) (w : World) (hN : Names w) : Calls Tryz.prog 121 #[.int .u8 ((2 ^ i : Nat) : Int)] w fun e w' => e = .returned (.string (txt (flagT i))) ∧ Below w.heap.size w w' := by
  have hp : 2 ^ i < 256 := Nat.lt_of_lt_of_le (Nat.pow_lt_pow_right (by omega) hi) (by decide)
  have C1 := string_c (2 ^ i) hp w hN
  have hl := textOf_len i hi
  have C2 := fun w => tkUpper_c (textOf (2 ^ i)) (by omega) w
  have hsz : (txt ((textOf (2 ^ i)).map upB)).size ≤ 20 := by rw [txt_size, List.length_map]; exact hl
  have C3 := fun w => Any.strings_Trim_laid Tryz.lays160 Tryz.infoAscii (txt ((textOf (2 ^ i)).map upB)) ⟨#[40, 92, 41]⟩ w (by omega) (by decide) (ascii_of_all (by decide))
  have ht := trim_flag i hi
  have C3 : ∀ w, Calls Tryz.prog 177 #[.string (txt ((textOf (2 ^ i)).map upB)), .string ⟨#[40, 92, 41]⟩] w fun e w' => e = .returned (.string (txt (flagT i))) ∧ Below w.heap.size w w' := fun w => by
    have h3 := C3 w
    rw [data_txt] at h3
    have h4 : Calls Tryz.prog 177 #[.string (txt ((textOf (2 ^ i)).map upB)), .string ⟨#[40, 92, 41]⟩] w fun e w' => e = .returned (.string ⟨(Lib.trimS ((textOf (2 ^ i)).map upB) cutL).toArray⟩) ∧ Below w.heap.size w w' := h3
    rw [ht] at h4
    exact h4
  clear hp
  obtain ⟨p, hp⟩ : ∃ p, 2 ^ i = p := ⟨_, rfl⟩
  rw [hp] at C1 ⊢
  simp only [hp] at C2 C3
  obtain ⟨T, hT⟩ : ∃ T, txt (textOf p) = T := ⟨_, rfl⟩
  have C1 : Calls Tryz.prog 92 #[.int .u8 p] w fun e w' => e = .returned (.string T) ∧ Below w.heap.size w w' := by rw [← hT]; exact C1
  obtain ⟨U, hU⟩ : ∃ U, txt ((textOf p).map upB) = U := ⟨_, rfl⟩
  obtain ⟨V, hV⟩ : ∃ V, txt (flagT i) = V := ⟨_, rfl⟩
  have C3 : ∀ w, Calls Tryz.prog 177 #[.string U, .string ⟨#[40, 92, 41]⟩] w fun e w' => e = .returned (.string V) ∧ Below w.heap.size w w' := fun w => by rw [← hV, ← hU]; exact C3 w
  rw [hV]
  simp only [hT, hU] at C2
  have H1 := Lib.hid C1
  have H2 := Lib.hid C2
  have H3 := Lib.hid C3
  clear C1 C2 C3 hT hU hV ht hl hsz hp
  go_enter Tryz.func121, Tryz.ntmps121
  go_wp2_with fail
  refine H1.out.mono ?_
  rintro e w1 ⟨rfl, h1⟩
  have K1 := Lib.hid h1
  clear h1
  go_wp2_with fail
  refine (H2.out w1).mono ?_
  rintro e w2 ⟨rfl, h1⟩
  have K2 := Lib.hid (K1.out.trans (h1.mono K1.out.size))
  clear h1
  go_wp2_with fail
  refine (H3.out w2).mono ?_
  rintro e w3 ⟨rfl, h1⟩
  have K3 := Lib.hid (K2.out.trans (h1.mono K2.out.size))
  clear h1
  go_wp2_with fail
  go_ret
  exact ⟨rfl, K3.out⟩
def wl : Nat → List UInt8
  | 0 => [65, 76, 76]
  | 2 => [85, 78]
  | 4 => [85, 73, 68, 32]
  | 5 => [76, 65, 82, 71, 69, 82, 32]
  | 6 => [83, 77, 65, 76, 76, 69, 82, 32]
  | 7 => [66, 79, 68, 89, 32]
  | 8 => [78, 79, 84, 32]
  | 9 => [79, 82, 32]
  | 10 => [40]
  | _ => []
def wB (k : Nat) : ByteArray := txt (wl k)
structure Gl (W : World) (g : Nat) : Prop where
  errs : Errs W
  names : Names W
  words : ∀ k, k < 11 → W.cell? ⟨2, k, none⟩ = some (.string (wB k))
  aw : Away g
  an : 6 ≠ g
  ag : 2 ≠ g
theorem Tk.cellN {W W' : World} {g b i : Nat} {v : Value} (ht : Tk g W W') (h : W.cell? ⟨b, i, none⟩ = some v) (hb : b ≠ g) : W'.cell? ⟨b, i, none⟩ = some v := by
  have hlt := cell_ltA h
  have h2 := ht.blk b hlt hb
  simp only [World.cell?, h2] at h ⊢
  exact h
theorem Gl.tk {W' : World} (h : Gl W g) (ht : Tk g W W') : Gl W' g := by
  obtain ⟨h1, ⟨n0, n1, n2, n3, n4⟩, h3, h4, h5, h6⟩ := h
  exact ⟨h1.tk ht h4, ⟨ht.cellN n0 h5, ht.cellN n1 h5, ht.cellN n2 h5, ht.cellN n3 h5, ht.cellN n4 h5⟩, fun k hk => ht.cellN (h3 k hk) h6, h4, h5, h6⟩
def rflagO (s : RS) : Option Nat := (List.range 5).find? fun i => wordB s (flagT i)
def rflagV (s : RS) : Nat := match rflagO s with | some i => 2 ^ i | none => 0
def rflagS (s : RS) : RS := match rflagO s with | some i => wordS s (flagT i) | none => .gone
theorem find_first {p : Nat → Bool} {n k : Nat} (hk : k < n) (h : ∀ i, i < k → p i = false) (hp : p k = true) : (List.range n).find? p = some k := by
  rw [List.find?_eq_some_iff_append]
  refine ⟨hp, List.range k, (List.range' (k + 1) (n - (k + 1))), ?_, ?_⟩
  · rw [List.range_eq_range', List.range_eq_range', show n = k + (1 + (n - (k + 1))) by omega, ← List.range'_append_1, ← List.range'_append_1]
    simp [Nat.add_comm]
    omega
  · intro a ha
    rw [h a (List.mem_range.1 ha)]; rfl
theorem find_none {p : Nat → Bool} {n : Nat} (h : ∀ i, i < n → p i = false) : (List.range n).find? p = none := by
  rw [List.find?_eq_none]
  intro a ha
  rw [h a (List.mem_range.1 ha)]; simp
end Go.Proofs.YtpnnchpaaopdcaaGreatDoor
namespace Go.Proofs.YtpnnchpaaopdcaaGreatDoor
open Go Go.RowKit
variable {W : World} {g : Nat} {s : RS}
theorem rflag_some {k : Nat} (hk : k < 5) (h : ∀ i, i < k → wordB s (flagT i) = false) (hp : wordB s (flagT k) = true) : rflagV s = 2 ^ k ∧ rflagS s = wordS s (flagT k) := by
  have : rflagO s = some k := find_first hk h hp
  unfold rflagV rflagS
  rw [this]
  exact ⟨rfl, rfl⟩
theorem rflag_none (h : ∀ i, i < 5 → wordB s (flagT i) = false) : rflagV s = 0 ∧ rflagS s = .gone := by
  have : rflagO s = none := find_none h
  unfold rflagV rflagS
  rw [this]
  exact ⟨rfl, rfl⟩
theorem wordS_no {w : List UInt8} (h : wordB s w = false) : wordS s w = s := by unfold wordS; rw [h]; rfl
set_option maxRecDepth 100000 in
set_option maxHeartbeats 1000000 in
theorem sReadFlag_c (h : PR W g s) (hl : s.l.length ≤ 1100000) (hG : Gl W g) : Calls Tryz.prog 135 #[pt g] W (Does W g (.int .u8 (rflagV s)) (rflagS s)) := by
  have H := Lib.hid h
  have HL := Lib.hid hl
  have HG := Lib.hid hG
  clear h hl hG
  obtain ⟨V, hV⟩ : ∃ V, rflagV s = V := ⟨_, rfl⟩
  obtain ⟨S, hS⟩ : ∃ S, rflagS s = S := ⟨_, rfl⟩
  rw [hV, hS]
  have HV := Lib.hid hV
  have HS := Lib.hid hS
  clear hV hS
  go_enter Tryz.func135, Tryz.ntmps135
  go_wp2_with fail
  go_loopw [3] (fun v wr => ∃ k p : Nat, k ≤ 5 ∧ v = .int .u8 p ∧ Hid (p = 2 ^ k) ∧ Hid (∀ i, i < k → wordB s (flagT i) = false) ∧ Hid (PR wr g s) ∧ Hid (Tk g W wr)) (fun v _ => 64 - (intOf v).toNat)
  case atStart => exact ⟨0, 1, by omega, rfl, rfl, fun i hi => by omega, H.out, Tk.refl _ _⟩
  case round =>
    obtain ⟨k, p, hk, rfl, HP, HF, HR, HT⟩ := hrel
    by_cases hlt : k < 5
    · have hp16 : p ≤ 16 := by rw [HP.out]; exact Nat.pow_le_pow_right (by omega) (show k ≤ 4 by omega)
      have hp1 : 1 ≤ p := by rw [HP.out]; exact Nat.one_le_two_pow
      have q : (p : Int) ≤ 16 := by omega
      have CN := sNameOf_c k hlt wr (HG.out.tk HT.out).names
      rw [← HP.out] at CN
      obtain ⟨T, hT⟩ : ∃ T, flagT k = T := ⟨_, rfl⟩
      have hTl : T.length ≤ 9 := by rw [← hT]; exact flagT_len k
      rw [hT] at CN
      have CN := Lib.hid CN
      have HTT := Lib.hid hT
      clear hT
      go_wp2_with fail
      refine CN.out.mono ?_
      rintro e w2 ⟨rfl, hb⟩
      have H2 : Hid (PR w2 g s) := HR.out.tk (Tk.of_below (g := g + 1) hb) (by omega)
      have T2 : Hid (Tk g W w2) := HT.out.trans (Tk.of_below hb)
      have CW := Lib.hid (tkWord_c H2.out HL.out T (by omega))
      clear hb
      obtain ⟨b, hb⟩ : ∃ b, wordB s T = b := ⟨_, rfl⟩
      rw [hb] at CW
      have HB := Lib.hid hb
      clear hb
      cases b with
      | true =>
        have hz := rflag_some hlt HF.out (by rw [HTT.out]; exact HB.out)
        have HZ : Hid (p = V ∧ wordS s T = S) := ⟨by rw [HP.out, ← hz.1, HV.out], by rw [← HTT.out, ← hz.2, HS.out]⟩
        clear hz
        go_wp2_with fail
        refine CW.out.mono ?_
        rintro e w3 ⟨rfl, h3, h4⟩
        have H3 := Lib.hid h3
        have H4 := Lib.hid (T2.out.trans h4)
        clear h3 h4
        go_wp2_with fail
        go_ret
        exact ⟨by rw [HZ.out.1]; rfl, HZ.out.2 ▸ H3.out, H4.out⟩
      | false =>
        go_wp2_with fail
        refine CW.out.mono ?_
        rintro e w3 ⟨rfl, h3, h4⟩
        rw [wordS_no HB.out] at h3
        have H3 := Lib.hid h3
        have H4 := Lib.hid (T2.out.trans h4)
        clear h3 h4
        go_wp2_with fail
        go_round
        case rel =>
          refine ⟨k + 1, p * 2, by omega, ?_, by show p * 2 = 2 ^ (k + 1); rw [HP.out, Nat.pow_succ], fun i hi => ?_, H3.out, H4.out⟩
          · go_num
          · by_cases h : i = k
            · subst h; rw [HTT.out]; exact HB.out
            · exact HF.out i (by omega)
        case measure => simp [intOf]; omega
    · obtain rfl : k = 5 := by omega
      have hp32 : p = 32 := HP.out
      subst hp32
      have hz := rflag_none HF.out
      have HZ : Hid (0 = V ∧ RS.gone = S) := ⟨by rw [← hz.1, HV.out], by rw [← hz.2, HS.out]⟩
      clear hz
      have C4 := Lib.hid (tkFail_c HR.out)
      go_wp2_with fail
      refine C4.out.mono ?_
      rintro e w3 ⟨rfl, h3, h4⟩
      have H3 := Lib.hid h3
      have H4 := Lib.hid (HT.out.trans h4)
      clear h3 h4
      go_wp2_with fail
      go_ret
      exact ⟨by rw [← HZ.out.1]; rfl, HZ.out.2 ▸ H3.out, H4.out⟩
end Go.Proofs.YtpnnchpaaopdcaaGreatDoor
namespace Go.Proofs.YtpnnchpaaopdcaaGreatDoor
open Go Go.RowKit
variable {W : World} {g : Nat} {s : RS}
def startL : List UInt8 := [42, 48, 49, 50, 51, 52, 53, 54, 55, 56, 57]
def kindB (s : RS) (k : Nat) : Bool := !(wl k).isEmpty && wordB s (wl k)
def kindO (s : RS) : Option Nat := (List.range 11).find? (kindB s)
def kindV (s : RS) : Nat := match kindO s with | some k => k | none => if startL.any (nextB s) then 3 else 1
def kindS (s : RS) : RS := match kindO s with | some k => wordS s (wl k) | none => s
theorem kind_some {k : Nat} (hk : k < 11) (h : ∀ i, i < k → kindB s i = false) (hp : kindB s k = true) : kindV s = k ∧ kindS s = wordS s (wl k) := by
  have : kindO s = some k := find_first hk h hp
  unfold kindV kindS
  rw [this]
  exact ⟨rfl, rfl⟩
theorem kind_none (h : ∀ i, i < 11 → kindB s i = false) : kindV s = (if startL.any (nextB s) then 3 else 1) ∧ kindS s = s := by
  have : kindO s = none := find_none h
  unfold kindV kindS
  rw [this]
  exact ⟨rfl, rfl⟩
theorem wl_len (k : Nat) : (wl k).length ≤ 10 := by unfold wl; split <;> decide
theorem Tryz.underlyingBytes : Tryz.prog.underlying 97 = some (.slice 5) := by kernel_rfl
theorem Tryz.underlyingU8 : Tryz.prog.underlying 5 = some (.int .u8) := by kernel_rfl
theorem conv_start (w : World) : (convert 97 97 (.slice (some ⟨w.heap.size, 0, none⟩) 11 11)).run Tryz.prog (w.alloc (.cells #[.int .u8 42, .int .u8 48, .int .u8 49, .int .u8 50, .int .u8 51, .int .u8 52, .int .u8 53, .int .u8 54, .int .u8 55, .int .u8 56, .int .u8 57] 5)) = .ok (.slice (some ⟨w.heap.size, 0, none⟩) 11 11) (w.alloc (.cells #[.int .u8 42, .int .u8 48, .int .u8 49, .int .u8 50, .int .u8 51, .int .u8 52, .int .u8 53, .int .u8 54, .int .u8 55, .int .u8 56, .int .u8 57] 5 (11, 12))) :=
  Go.Joins.run_convert_bytes_const_at w 97 5 #[.int .u8 42, .int .u8 48, .int .u8 49, .int .u8 50, .int .u8 51, .int .u8 52, .int .u8 53, .int .u8 54, .int .u8 55, .int .u8 56, .int .u8 57] 11 11 _ rfl Tryz.underlyingBytes Tryz.underlyingU8
theorem start_cells (w : World) : ∀ k, k < 11 → ∃ c : UInt8, startL[k]? = some c ∧ (w.alloc (.cells #[.int .u8 42, .int .u8 48, .int .u8 49, .int .u8 50, .int .u8 51, .int .u8 52, .int .u8 53, .int .u8 54, .int .u8 55, .int .u8 56, .int .u8 57] 5 (11, 12))).cell? ⟨w.heap.size, k, none⟩ = some (.int .u8 c.toNat) := by
  intro k hk
  have hh := heap_alloc_new w (.cells #[.int .u8 42, .int .u8 48, .int .u8 49, .int .u8 50, .int .u8 51, .int .u8 52, .int .u8 53, .int .u8 54, .int .u8 55, .int .u8 56, .int .u8 57] 5 (11, 12))
  obtain h | h | h | h | h | h | h | h | h | h | h : k = 0 ∨ k = 1 ∨ k = 2 ∨ k = 3 ∨ k = 4 ∨ k = 5 ∨ k = 6 ∨ k = 7 ∨ k = 8 ∨ k = 9 ∨ k = 10 := by omega
  all_goals
    subst h
    refine ⟨_, rfl, ?_⟩
    simp only [World.cell?, hh]
    rfl
set_option maxRecDepth 100000 in
set_option maxHeartbeats 4000000 in
theorem sReadKind_c (h : PR W g s) (hl : s.l.length ≤ 1100000) (hG : Gl W g) : Calls Tryz.prog 134 #[pt g] W (Does W g (.int .i64 (kindV s)) (kindS s)) := by
  have c0 := hG.words 0 (by decide)
  have c1 := hG.words 1 (by decide)
  have c2 := hG.words 2 (by decide)
  have c3 := hG.words 3 (by decide)
  have c4 := hG.words 4 (by decide)
  have c5 := hG.words 5 (by decide)
  have c6 := hG.words 6 (by decide)
  have c7 := hG.words 7 (by decide)
  have c8 := hG.words 8 (by decide)
  have c9 := hG.words 9 (by decide)
  have c10 := hG.words 10 (by decide)
  have H := Lib.hid h
  have HL := Lib.hid hl
  clear h hl hG
  obtain ⟨V, hV⟩ : ∃ V, kindV s = V := ⟨_, rfl⟩
  obtain ⟨S, hS⟩ : ∃ S, kindS s = S := ⟨_, rfl⟩
  rw [hV, hS]
  have HV := Lib.hid hV
  have HS := Lib.hid hS
  clear hV hS
  go_enter Tryz.func134, Tryz.ntmps134
  go_wp2_with fail
  clear c0 c1 c2 c3 c4 c5 c6 c7 c8 c9 c10
  go_loopw [3, 4, 8] (fun _ _ v wr => ∃ k : Nat, k ≤ 11 ∧ v = .int .i64 k ∧ Hid (∀ i, i < k → kindB s i = false) ∧ Hid (PR wr g s) ∧ Hid (Tk g W wr)) (fun _ _ v _ => 11 - (intOf v).toNat)
  case atStart => exact ⟨0, by omega, rfl, fun i hi => by omega, H.out, Tk.refl _ _⟩
  case round =>
    obtain ⟨k, hk, rfl, HF, HR, HT⟩ := hrel
    by_cases hlt : k < 11
    · have hidx : ∀ w, (Instr.index 151 (.agg #[.string (wB 0), .string (wB 1), .string (wB 2), .string (wB 3), .string (wB 4), .string (wB 5), .string (wB 6), .string (wB 7), .string (wB 8), .string (wB 9), .string (wB 10)]) (.int .i64 (k : Int))).run Tryz.prog w = .ok (.string (wB k)) w := by
        obtain h | h | h | h | h | h | h | h | h | h | h : k = 0 ∨ k = 1 ∨ k = 2 ∨ k = 3 ∨ k = 4 ∨ k = 5 ∨ k = 6 ∨ k = 7 ∨ k = 8 ∨ k = 9 ∨ k = 10 := by omega
        all_goals subst h; exact fun w => by kernel_rfl
      have q : (k : Int) < 11 := by omega
      have e0 : (wB k).toList.isEmpty = (wl k).isEmpty := isEmpty_txt' _
      have CW := tkWord_c HR.out HL.out (wl k) (by have := wl_len k; omega)
      have CW : Calls Tryz.prog 99 #[pt g, .string (wB k)] wr (Does wr g (.bool (wordB s (wl k))) (wordS s (wl k))) := CW
      have hstep : ∀ b, kindB s k = b → Hid (kindB s k = b) := fun b h => h
      obtain ⟨B, hB⟩ : ∃ B, wB k = B := ⟨_, rfl⟩
      rw [hB] at hidx e0 CW
      clear hB
      obtain ⟨m, hm⟩ : ∃ m, (wl k).isEmpty = m := ⟨_, rfl⟩
      rw [hm] at e0
      have HM := Lib.hid hm
      clear hm
      obtain ⟨b, hb⟩ : ∃ b, wordB s (wl k) = b := ⟨_, rfl⟩
      rw [hb] at CW
      have HB := Lib.hid hb
      have CW := Lib.hid CW
      clear hb hstep
      cases m with
      | true =>
        have HK : Hid (kindB s k = false) := by show _ = _; unfold kindB; rw [HM.out]; rfl
        go_wp2_with fail
        go_round
        case rel =>
          refine ⟨k + 1, by omega, by go_num, fun i hi => ?_, HR.out, HT.out⟩
          by_cases h : i = k
          · subst h; exact HK.out
          · exact HF.out i (by omega)
        case measure => simp [intOf]; omega
      | false =>
        cases b with
        | true =>
          have HK : Hid (kindB s k = true) := by show _ = _; unfold kindB; rw [HM.out, HB.out]; rfl
          have hz := kind_some hlt HF.out HK.out
          have HZ : Hid (k = V ∧ wordS s (wl k) = S) := ⟨by rw [← hz.1, HV.out], by rw [← hz.2, HS.out]⟩
          clear hz
          go_wp2_with fail
          refine CW.out.mono ?_
          rintro e w3 ⟨rfl, h3, h4⟩
          have H3 := Lib.hid h3
          have H4 := Lib.hid (HT.out.trans h4)
          clear h3 h4
          go_wp2_with fail
          go_ret
          exact ⟨by rw [← HZ.out.1]; rfl, HZ.out.2 ▸ H3.out, H4.out⟩
        | false =>
          have HK : Hid (kindB s k = false) := by show _ = _; unfold kindB; rw [HM.out, HB.out]; rfl
          go_wp2_with fail
          refine CW.out.mono ?_
          rintro e w3 ⟨rfl, h3, h4⟩
          rw [wordS_no HB.out] at h3
          have H3 := Lib.hid h3
          have H4 := Lib.hid (HT.out.trans h4)
          clear h3 h4
          go_wp2_with fail
          go_round
          case rel =>
            refine ⟨k + 1, by omega, by go_num, fun i hi => ?_, H3.out, H4.out⟩
            by_cases h : i = k
            · subst h; exact HK.out
            · exact HF.out i (by omega)
          case measure => simp [intOf]; omega
    · obtain rfl : k = 11 := by omega
      rw [show ((11 : Nat) : Int) = (11 : Int) from rfl]
      have hz := kind_none HF.out
      obtain ⟨y, hy⟩ : ∃ y, (if startL.any (nextB s) then 3 else 1) = y := ⟨_, rfl⟩
      rw [hy] at hz
      have HY := Lib.hid hy
      have HZ : Hid (y = V ∧ s = S) := ⟨by rw [← hz.1, HV.out], by rw [← hz.2, HS.out]⟩
      clear hz hy
      have cv := conv_start wr
      have SC := Lib.hid (start_cells wr)
      obtain ⟨w7, hw7⟩ : ∃ w7, wr.alloc (.cells #[.int .u8 42, .int .u8 48, .int .u8 49, .int .u8 50, .int .u8 51, .int .u8 52, .int .u8 53, .int .u8 54, .int .u8 55, .int .u8 56, .int .u8 57] 5 (11, 12)) = w7 := ⟨_, rfl⟩
      have hb7 : Below wr.heap.size wr w7 := by rw [← hw7]; exact (Below.refl _ wr).alloc (Nat.le_refl _) _
      have hz7 : w7.heap.size = wr.heap.size + 1 := by rw [← hw7]; simp
      rw [hw7] at cv SC
      have R7 : Hid (PR w7 g s) := HR.out.tk (Tk.of_below (g := g + 1) hb7) (by omega)
      have T7 : Hid (Tk g W w7) := HT.out.trans (Tk.of_below hb7)
      have hgt : wr.heap.size < w7.heap.size := by omega
      clear hb7 hw7 hz7 HF HR HT
      go_wp2_with fail
      go_loopw [6, 24] (fun _ v wr2 => ∃ k : Nat, k ≤ 11 ∧ v = .int .i64 k ∧ Hid (∀ i, i < k → ∀ c, startL[i]? = some c → nextB s c = false) ∧ wr2 = w7) (fun _ v _ => 11 - (intOf v).toNat)
      case atStart => exact ⟨0, by omega, rfl, fun i hi => by omega, rfl⟩
      case round =>
        obtain ⟨k, hk, rfl, HF, rfl⟩ := hrel
        by_cases hlt : k < 11
        · obtain ⟨c, hc, kc⟩ := SC.out k hlt
          have q : (k : Int) < 11 := by omega
          have q0 : (0 : Int) ≤ k := by omega
          have CN := tkNext_c R7.out c.toNat c rfl
          have HC := Lib.hid hc
          obtain ⟨b, hb⟩ : ∃ b, nextB s c = b := ⟨_, rfl⟩
          rw [hb] at CN
          have HB := Lib.hid hb
          have CN := Lib.hid CN
          clear hb hc
          cases b with
          | true =>
            have hy : (3 : Nat) = y := by
              rw [← HY.out, if_pos]
              exact List.any_eq_true.2 ⟨c, List.mem_of_getElem? HC.out, HB.out⟩
            have HW : Hid ((3 : Nat) = V) := hy.trans HZ.out.1
            clear hy
            go_wp2_with fail
            refine CN.out.mono ?_
            rintro e w3 ⟨rfl, rfl⟩
            go_wp2_with fail
            go_ret
            exact ⟨by rw [← HW.out]; rfl, HZ.out.2 ▸ R7.out, T7.out⟩
          | false =>
            go_wp2_with fail
            refine CN.out.mono ?_
            rintro e w3 ⟨rfl, rfl⟩
            go_wp2_with fail
            go_roundw
            case rel =>
              refine ⟨k + 1, by omega, by go_num, fun i hi d hd => ?_, trivial⟩
              by_cases h : i = k
              · subst h
                have h9 := HC.out
                rw [hd] at h9
                rw [Option.some.inj h9]; exact HB.out
              · exact HF.out i (by omega) d hd
            case measure => simp [intOf]; omega
        · obtain rfl : k = 11 := by omega
          have hy : (1 : Nat) = y := by
            rw [← HY.out, if_neg]
            intro h
            obtain ⟨d, hd, h1⟩ := List.any_eq_true.1 h
            obtain ⟨i, hi, h2⟩ := List.getElem_of_mem hd
            have := HF.out i (by simpa [startL] using hi) d (by rw [List.getElem?_eq_getElem hi, h2])
            rw [this] at h1; cases h1
          have HW : Hid ((1 : Nat) = V) := hy.trans HZ.out.1
          clear hy
          go_wp2_with fail
          go_ret
          exact ⟨by rw [← HW.out]; rfl, HZ.out.2 ▸ R7.out, T7.out⟩
end Go.Proofs.YtpnnchpaaopdcaaGreatDoor
namespace Go.Proofs.YtpnnchpaaopdcaaGreatDoor
open Go Go.RowKit
variable {W : World} {g : Nat} {s : RS}
mutual
def bareK : KT → KT
  | .mk kind flag set n s kids _ _ _ _ => .mk kind flag set n s (bareL kids) none 0 none 0
def bareL : List KT → List KT
  | [] => []
  | k :: r => bareK k :: bareL r
end
theorem bareL_map : ∀ l : List KT, bareL l = l.map bareK
  | [] => by unfold bareL; rfl
  | k :: r => by unfold bareL; rw [bareL_map r]; rfl
def plainK (kind flag : Nat) (set : List (Nat × Nat)) (n : Nat) (s : List UInt8) (kids : List KT) : KT := .mk kind flag set n s kids none 0 none 0
def moreF (rd : RS → KT × RS) : Nat → RS → List KT × RS
  | 0, s => ([], s)
  | n + 1, s => if wordB s [32] then (let a := rd (wordS s [32]); let r := moreF rd n a.2; (a.1 :: r.1, r.2)) else ([], s)
def kidsF (rd : RS → KT × RS) (s : RS) : List KT × RS :=
  let a := rd s
  let r := moreF rd a.2.l.length a.2
  (a.1 :: r.1, mustS r.2 [41])
def readF : Nat → RS → KT × RS
  | 0, _ => (plainK 1 0 [] 0 [] [], .gone)
  | f + 1, s =>
    let k := kindV s
    let t := kindS s
    if k = 1 ∨ k = 2 then (plainK k (rflagV t) [] 0 [] [], rflagS t)
    else if k = 3 ∨ k = 4 then (plainK k 0 (rsetV t) 0 [] [], rsetS t)
    else if k = 5 ∨ k = 6 then (plainK k 0 [] (numN t) [] [], numS t)
    else if k = 7 then (plainK k 0 [] 0 (strV t) [], strS t)
    else if k = 8 then (let a := readF f t; (plainK k 0 [] 0 [] [a.1], a.2))
    else if k = 9 then (let a := readF f t; let b := readF f (mustS a.2 [32]); (plainK k 0 [] 0 [] [a.1, b.1], b.2))
    else if k = 10 then (let a := kidsF (readF f) t; (plainK k 0 [] 0 [] a.1, a.2))
    else (plainK k 0 [] 0 [] [], t)
def Fewer (s t : RS) : Prop := t.Ok ∧ t.l.length ≤ s.l.length
theorem Fewer.trans {a b c : RS} (h : Fewer a b) (h' : Fewer b c) : Fewer a c := ⟨h'.1, Nat.le_trans h'.2 h.2⟩
theorem Fewer.refl {a : RS} (h : a.Ok) : Fewer a a := ⟨h, Nat.le_refl _⟩
theorem Fewer.gone {a : RS} : Fewer a .gone := ⟨gone_ok, Nat.zero_le _⟩
theorem Fewer.word {a : RS} (h : a.Ok) (w : List UInt8) : Fewer a (wordS a w) := ⟨h.word w, word_le a w⟩
theorem Fewer.must {a : RS} (h : a.Ok) (w : List UInt8) : Fewer a (mustS a w) := ⟨h.must w, must_le a w⟩
theorem Fewer.kind {a : RS} (h : a.Ok) : Fewer a (kindS a) := by
  unfold kindS
  cases kindO a with
  | none => exact .refl h
  | some k => exact .word h _
theorem Fewer.flag {a : RS} (h : a.Ok) : Fewer a (rflagS a) := by
  unfold rflagS
  cases rflagO a with
  | none => exact .gone
  | some k => exact .word h _
theorem Fewer.set {a : RS} (h : a.Ok) : Fewer a (rsetS a) := by
  unfold rsetS
  split
  · exact ⟨h.skip _, drop_le _ _⟩
  · exact .gone
theorem Fewer.num {a : RS} (h : a.Ok) : Fewer a (numS a) := ⟨h.num, num_le a⟩
theorem Fewer.str {a : RS} (h : a.Ok) : Fewer a (strS a) := ⟨h.str, str_le a⟩
theorem Fewer.more {rd : RS → KT × RS} (hr : ∀ a, a.Ok → Fewer a (rd a).2) : ∀ (n : Nat) (a : RS), a.Ok → Fewer a (moreF rd n a).2 ∧ (moreF rd n a).1.length ≤ n
  | 0, a, h => ⟨.refl h, Nat.le_refl _⟩
  | n + 1, a, h => by
    unfold moreF
    split
    · have h1 := Fewer.word h [32]
      have h2 := hr _ h1.1
      have h3 := Fewer.more hr n _ h2.1
      exact ⟨(h1.trans h2).trans h3.1, by simpa using h3.2⟩
    · exact ⟨.refl h, Nat.zero_le _⟩
theorem Fewer.kids {rd : RS → KT × RS} (hr : ∀ a, a.Ok → Fewer a (rd a).2) {a : RS} (h : a.Ok) : Fewer a (kidsF rd a).2 ∧ (kidsF rd a).1.length ≤ a.l.length + 1 := by
  unfold kidsF
  have h2 := hr _ h
  have h3 := Fewer.more hr (rd a).2.l.length _ h2.1
  exact ⟨(h2.trans h3.1).trans (.must h3.1.1 _), by simp; exact Nat.le_trans h3.2 h2.2⟩
theorem Fewer.read : ∀ (f : Nat) (a : RS), a.Ok → Fewer a (readF f a).2
  | 0, a, h => .gone
  | f + 1, a, h => by
    have hk := Fewer.kind h
    have hr := Fewer.read f
    unfold readF
    dsimp only
    split
    · exact hk.trans (.flag hk.1)
    split
    · exact hk.trans (.set hk.1)
    split
    · exact hk.trans (.num hk.1)
    split
    · exact hk.trans (.str hk.1)
    split
    · exact hk.trans (hr _ hk.1)
    split
    · have h1 := hk.trans (hr _ hk.1)
      have h2 := h1.trans (.must h1.1 [32])
      exact h2.trans (hr _ h2.1)
    split
    · exact hk.trans (Fewer.kids hr hk.1).1
    · exact hk
theorem strV_le (s : RS) : (strV s).length ≤ s.l.length := by
  unfold strV
  split
  · cases hq : qd s.l.tail with
    | none => simp
    | some x =>
      have h1 := (qd_le _ _ (Nat.le_refl _) x hq).2
      simp only [Option.map_some, Option.getD_some]
      have h2 : s.l.tail.length ≤ s.l.length := by rw [List.length_tail]; omega
      omega
  · split
    · unfold litV
      split
      · have := litH_le s
        rw [List.length_take]; omega
      · simp
    · exact tw_le _
theorem rflag_lt (s : RS) : rflagV s < 256 := by
  unfold rflagV
  cases h : rflagO s with
  | none => exact (by decide)
  | some k =>
    have hk : k < 5 := List.mem_range.1 (List.mem_of_find?_eq_some h)
    have : 2 ^ k ≤ 2 ^ 4 := Nat.pow_le_pow_right (by omega) (by omega)
    show 2 ^ k < 256
    omega
theorem kindV_le (s : RS) : kindV s ≤ 10 := by
  unfold kindV
  cases h : kindO s with
  | none => dsimp only; split <;> omega
  | some k =>
    have hk : k < 11 := List.mem_range.1 (List.mem_of_find?_eq_some h)
    show k ≤ 10
    omega
theorem wordB_gone (w : List UInt8) : wordB .gone w = false := rfl
theorem kind_gone : kindV .gone = 1 ∧ kindS .gone = .gone := by
  have h : ∀ i, i < 11 → kindB .gone i = false := fun i _ => by unfold kindB; rw [wordB_gone]; simp
  have h2 := kind_none h
  refine ⟨h2.1.trans ?_, h2.2⟩
  rw [if_neg]
  decide
theorem flag_gone : rflagV .gone = 0 ∧ rflagS .gone = .gone := ⟨rfl, rfl⟩
def ReadDoes (W : World) (g : Nat) (r : KT × RS) (e : Ending) (w' : World) : Prop :=
  ∃ kt, e = .returned kt.val ∧ bareK kt = r.1 ∧ KeyC w' kt ∧ KeyIn W.heap.size kt ∧ PR w' g r.2 ∧ Tk g W w'
def ReadAt (f : Nat) : Prop := ∀ (W : World) (g : Nat) (s : RS), PR W g s → s.Ok → s.l.length ≤ 1100000 → Gl W g → Calls Tryz.prog 74 #[pt g, .int .i64 ((17 - f : Nat) : Int)] W (ReadDoes W g (readF f s))
end Go.Proofs.YtpnnchpaaopdcaaGreatDoor
namespace Go.Proofs.YtpnnchpaaopdcaaGreatDoor
open Go Go.RowKit
theorem word_pre {s : RS} {w : List UInt8} (h : wordB s w = true) : s.f = false ∧ w.length ≤ s.l.length ∧ (s.l.take w.length).map upB = w.map upB := by
  unfold wordB at h
  simp only [Bool.and_eq_true, Bool.not_eq_true', decide_eq_true_eq, beq_iff_eq] at h
  exact ⟨h.1, h.2.1, h.2.2⟩
def exclW (a b : List UInt8) : Bool := !(((b.map upB).take a.length == a.map upB) || ((a.map upB).take b.length == b.map upB))
theorem word_take {s : RS} {a b : List UInt8} (ha : wordB s a = true) (hb : wordB s b = true) (hl : a.length ≤ b.length) : (b.map upB).take a.length = a.map upB := by
  obtain ⟨_, _, h1⟩ := word_pre ha
  obtain ⟨_, _, h2⟩ := word_pre hb
  rw [← h2, ← h1, ← List.map_take, List.take_take, Nat.min_eq_left hl]
theorem word_not {s : RS} {a b : List UInt8} (ha : wordB s a = true) (hx : exclW a b = true) : wordB s b = false := by
  cases hb : wordB s b with
  | false => rfl
  | true =>
    unfold exclW at hx
    simp only [Bool.not_eq_true', Bool.or_eq_false_iff, beq_eq_false_iff_ne] at hx
    rcases Nat.le_total a.length b.length with h | h
    · exact absurd (word_take ha hb h) hx.1
    · exact absurd (word_take hb ha h) hx.2
theorem word_head {s : RS} {x : UInt8} {r : List UInt8} (h : wordB s (x :: r) = true) : ∃ c t, s.l = c :: t ∧ upB c = upB x := by
  obtain ⟨_, h2, h3⟩ := word_pre h
  cases hs : s.l with
  | nil => rw [hs] at h2; simp at h2
  | cons c t =>
    rw [hs] at h3
    simp at h3
    exact ⟨c, t, rfl, h3.1⟩
theorem start_no {s : RS} {x : UInt8} {r : List UInt8} (h : wordB s (x :: r) = true) (hx : startL.all (fun y => upB y != upB x) = true) : startL.any (nextB s) = false := by
  obtain ⟨c, t, hs, hc⟩ := word_head h
  cases ha : startL.any (nextB s) with
  | false => rfl
  | true =>
    obtain ⟨y, hy, hn⟩ := List.any_eq_true.1 ha
    unfold nextB at hn
    rw [hs] at hn
    have e : c = y := by simpa using hn
    have h2 := List.all_eq_true.1 hx y hy
    rw [← e, hc] at h2
    simp at h2
theorem excl_flag : ∀ i < 5, ∀ k < 11, k ≠ 1 → k ≠ 3 → exclW (flagT i) (wl k) = true := by decide +kernel
theorem excl_flags : ∀ i < 5, ∀ j < 5, i ≠ j → exclW (flagT i) (flagT j) = true := by decide +kernel
theorem excl_tab : (List.range 11).all (fun i => (List.range 11).all fun j => i == j || (i == 1 || (i == 3 || (j == 1 || (j == 3 || exclW (wl i) (wl j)))))) = true := by decide +kernel
theorem excl_words (i : Nat) (hi : i < 11) (j : Nat) (hj : j < 11) (h : i ≠ j) (h1 : i ≠ 1) (h3 : i ≠ 3) (k1 : j ≠ 1) (k3 : j ≠ 3) : exclW (wl i) (wl j) = true := by
  have := List.all_eq_true.1 (List.all_eq_true.1 excl_tab i (List.mem_range.2 hi)) j (List.mem_range.2 hj)
  simpa [h, h1, h3, k1, k3] using this
theorem flag_heads : ∀ i < 5, ∃ x r, flagT i = x :: r ∧ startL.all (fun y => upB y != upB x) = true := by
  intro i hi
  obtain h | h | h | h | h : i = 0 ∨ i = 1 ∨ i = 2 ∨ i = 3 ∨ i = 4 := by omega
  all_goals subst h; exact ⟨_, _, rfl, by decide +kernel⟩
theorem wl_empty : ∀ k < 11, (wl k).isEmpty = (k == 1 || k == 3) := by decide +kernel
theorem kindB_of {s : RS} {k : Nat} (hk : k < 11) (h1 : k ≠ 1) (h3 : k ≠ 3) : kindB s k = wordB s (wl k) := by
  unfold kindB
  rw [wl_empty k hk]
  simp [h1, h3]
theorem kindB_13 {s : RS} {k : Nat} (h : k = 1 ∨ k = 3) : kindB s k = false := by
  rcases h with rfl | rfl <;> rfl
theorem kind_word {s : RS} {k : Nat} (hk : k < 11) (h1 : k ≠ 1) (h3 : k ≠ 3) (hw : wordB s (wl k) = true) : kindV s = k ∧ kindS s = wordS s (wl k) := by
  refine kind_some hk (fun i hi => ?_) (by rw [kindB_of hk h1 h3]; exact hw)
  by_cases e1 : i = 1 ∨ i = 3
  · exact kindB_13 e1
  · rw [kindB_of (by omega) (by omega) (by omega)]
    exact word_not hw (excl_words k hk i (by omega) (by omega) h1 h3 (by omega) (by omega))
theorem flag_one {s : RS} {i : Nat} (hi : i < 5) (h : wordB s (flagT i) = true) : rflagV s = 2 ^ i ∧ rflagS s = wordS s (flagT i) := by
  have : rflagO s = some i := find_first hi (fun j hj => word_not h (excl_flags i hi j (by omega) (by omega))) h
  unfold rflagV rflagS
  rw [this]
  exact ⟨rfl, rfl⟩
theorem kind_flag {s : RS} {i : Nat} (hi : i < 5) (h : wordB s (flagT i) = true) : kindV s = 1 ∧ kindS s = s := by
  obtain ⟨x, r, hx, hs⟩ := flag_heads i hi
  have hk := kind_none (s := s) fun k hk => by
    by_cases e : k = 1 ∨ k = 3
    · exact kindB_13 e
    · rw [kindB_of hk (by omega) (by omega)]
      exact word_not h (excl_flag i hi k hk (by omega) (by omega))
  rw [hx] at h
  rw [start_no h hs] at hk
  exact hk
theorem more_fuel {rd : RS → KT × RS} (hr : ∀ a, a.Ok → Fewer a (rd a).2) : ∀ (n m : Nat) (s : RS), s.Ok → s.l.length ≤ n → s.l.length ≤ m → moreF rd n s = moreF rd m s
  | 0, 0, s, _, _, _ => rfl
  | 0, m + 1, s, _, hn, _ => by
    have hw : wordB s [32] = false := by
      cases h : wordB s [32] with
      | false => rfl
      | true => have := (word_pre h).2.1; simp at this; omega
    unfold moreF; rw [hw]; rfl
  | n + 1, 0, s, _, _, hm => by
    have hw : wordB s [32] = false := by
      cases h : wordB s [32] with
      | false => rfl
      | true => have := (word_pre h).2.1; simp at this; omega
    unfold moreF; rw [hw]; rfl
  | n + 1, m + 1, s, hok, hn, hm => by
    conv => lhs; unfold moreF
    conv => rhs; unfold moreF
    cases hw : wordB s [32] with
    | false => rfl
    | true =>
      have hl : (wordS s [32]).l.length + 1 ≤ s.l.length := by
        have := (word_pre hw).2.1
        unfold wordS; rw [hw]; simp at this ⊢; omega
      have hf := hr (wordS s [32]) (hok.word _)
      simp only [if_true]
      rw [more_fuel hr n m _ hf.1 (by have := hf.2; omega) (by have := hf.2; omega)]
theorem kids_step {rd : RS → KT × RS} (hr : ∀ a, a.Ok → Fewer a (rd a).2) (s : RS) (hok : s.Ok) :
    kidsF rd s = if wordB (rd s).2 [32] then ((rd s).1 :: (kidsF rd (wordS (rd s).2 [32])).1, (kidsF rd (wordS (rd s).2 [32])).2) else ([(rd s).1], mustS (rd s).2 [41]) := by
  have h0 := hr s hok
  cases hw : wordB (rd s).2 [32] with
  | false =>
    unfold kidsF
    try dsimp only
    have hm : moreF rd (rd s).2.l.length (rd s).2 = ([], (rd s).2) := by
      cases (rd s).2.l.length with
      | zero => rfl
      | succ n => unfold moreF; rw [hw]; rfl
    rw [hm]; rfl
  | true =>
    have hl : (wordS (rd s).2 [32]).l.length + 1 ≤ (rd s).2.l.length := by
      have := (word_pre hw).2.1
      unfold wordS; rw [hw]; simp at this ⊢; omega
    have h1 := hr (wordS (rd s).2 [32]) (h0.1.word _)
    unfold kidsF
    try dsimp only
    obtain ⟨m, hm⟩ : ∃ m, (rd s).2.l.length = m + 1 := ⟨(rd s).2.l.length - 1, by omega⟩
    rw [hm]
    conv => lhs; unfold moreF
    rw [hw]
    simp only [if_true]
    rw [more_fuel hr m _ _ h1.1 (by have := h1.2; omega) (Nat.le_refl _)]
variable {W : World} {g : Nat} {s : RS}
theorem results_k1 (tmps : Array Value) (w : World) (B : Nat) (a b c d e f : Value) (h : Cells w B 37 #[a, b, c, d, e, f]) (h2 : tmps.getD 2 undef = .pointer (some ⟨B, 0, none⟩)) :
    (results Tryz.f133 tmps).run Tryz.prog w = .ok (.agg #[a, b, c, d, e, f]) w := by
  have c0 := h.cell (i := 0) rfl
  have c1 := h.cell (i := 1) rfl
  have c2 := h.cell (i := 2) rfl
  have c3 := h.cell (i := 3) rfl
  have c4 := h.cell (i := 4) rfl
  have c5 := h.cell (i := 5) rfl
  have h2' : tmps[2]?.getD undef = .pointer (some ⟨B, 0, none⟩) := by simpa using h2
  simp [results, Tryz.f133, go_sem, h2', c0, c1, c2, c3, c4, c5]
theorem Cells.six {w : World} {B : Nat} {t : TypeId} {x0 x1 x2 x3 x4 x5 : Value} (h : Cells w B t #[x0, x1, x2, x3, x4, x5]) (a b c d e f : Value) :
    Cells ((((((w.setCell ⟨B, 0, none⟩ a).setCell ⟨B, 1, none⟩ b).setCell ⟨B, 2, none⟩ c).setCell ⟨B, 3, none⟩ d).setCell ⟨B, 4, none⟩ e).setCell ⟨B, 5, none⟩ f) B t #[a, b, c, d, e, f] :=
  (((((h.set 0 a).set 1 b).set 2 c).set 3 d).set 4 e).set 5 f
theorem Tk.fresh {g c : Nat} {a b d : World} (h : Tk g a b) (h' : Tk c b d) (hc : a.heap.size ≤ c) : Tk g a d :=
  ⟨h'.os.trans h.os, h'.tape.trans h.tape, h'.output.trans h.output, Nat.le_trans h.size h'.size, fun k hk hg => (h'.blk k (Nat.lt_of_lt_of_le hk h.size) (by omega)).trans (h.blk k hk hg)⟩
set_option maxRecDepth 100000 in
set_option maxHeartbeats 2000000 in
theorem sRead1_c {f : Nat} (ih : ReadAt f) (hf : f ≤ 16) (b2 b3 : Nat) (h : PR W g s) (hok : s.Ok) (hl : s.l.length ≤ 1100000) (hG : Gl W g) (h2 : W.cell? ⟨b2, 0, none⟩ = some (pt g)) (h3 : W.cell? ⟨b3, 0, none⟩ = some (.int .i64 ((16 - f : Nat) : Int))) (hl2 : b2 < W.heap.size) (hl3 : b3 < W.heap.size) :
    Calls Tryz.prog 133 #[.pointer (some ⟨b2, 0, none⟩), .pointer (some ⟨b3, 0, none⟩)] W (ReadDoes W g (readF f s)) := by
  obtain ⟨z0, z1, z2, z3, z4, z5, hz⟩ : ∃ z0 z1 z2 z3 z4 z5 : Value, (#[z0, z1, z2, z3, z4, z5] : Array Value) = #[.int .i64 0, .int .u8 0, .slice none 0 0, .int .u32 0, .string ⟨#[]⟩, .slice none 0 0] := ⟨_, _, _, _, _, _, rfl⟩
  have hlt := Cells.lt h
  obtain ⟨w0, hw0⟩ : ∃ w0, W.alloc (.cells #[.int .i64 0, .int .u8 0, .slice none 0 0, .int .u32 0, .string ⟨#[]⟩, .slice none 0 0] 37) = w0 := ⟨_, rfl⟩
  have hb0 : Below W.heap.size W w0 := by rw [← hw0]; exact (Below.refl _ W).alloc (Nat.le_refl _) _
  have hs0 : w0.heap.size = W.heap.size + 1 := by rw [← hw0]; simp
  have hc0 : Cells w0 W.heap.size 37 #[.int .i64 0, .int .u8 0, .slice none 0 0, .int .u32 0, .string ⟨#[]⟩, .slice none 0 0] := by rw [← hw0]; exact heap_alloc_new W _
  have t0 : Tk g W w0 := Tk.of_below hb0
  have C := ih w0 g s (h.tk (Tk.of_below (g := g + 1) hb0) (by omega)) hok hl (hG.tk t0)
  have k2 : w0.cell? ⟨b2, 0, none⟩ = some (pt g) := (hb0.cell (p := ⟨b2, _, none⟩) hl2).trans h2
  have k3 : w0.cell? ⟨b3, 0, none⟩ = some (.int .i64 ((16 - f : Nat) : Int)) := (hb0.cell (p := ⟨b3, _, none⟩) hl3).trans h3
  obtain ⟨d, hd⟩ : ∃ d, (16 - f : Nat) = d := ⟨_, rfl⟩
  have hd17 : (17 - f : Nat) = d + 1 := by omega
  rw [hd17] at C
  rw [hd] at k3
  have hd16 : d ≤ 16 := by omega
  have e1 : ((d + 1 : Nat) : Int) = (d : Int) + 1 := by omega
  rw [e1] at C
  have C := Lib.hid C
  have T0 := Lib.hid t0
  have HC0 := Lib.hid hc0
  obtain ⟨r, hr⟩ : ∃ r, readF f s = r := ⟨_, rfl⟩
  rw [hr] at C ⊢
  have HS0 := Lib.hid hs0
  clear h hok hl hG h2 h3 hb0 hs0 hc0 t0 ih hd hd17 e1 hr hz
  go_enter Tryz.func133, Tryz.ntmps133
  go_wp2_with (first | rw [hw0] | fail)
  refine C.out.mono ?_
  rintro e w1 ⟨kt, rfl, hbk, hkc, hki, hpr, htk⟩
  obtain ⟨xk, xf, xm, xn, xl, xsp, xkp, xsc, xkc, X, hv, hc⟩ := kt.form
  have hcells := Cells.later HC0.out (htk.blk _ (Cells.lt HC0.out) (by omega))
  have f0 := hcells.cell (i := 0) rfl
  have f1 := hcells.cell (i := 1) rfl
  have f2 := hcells.cell (i := 2) rfl
  have f3 := hcells.cell (i := 3) rfl
  have f4 := hcells.cell (i := 4) rfl
  have f5 := hcells.cell (i := 5) rfl
  have g0 := hcells.frozen 0
  have g1 := hcells.frozen 1
  have g2 := hcells.frozen 2
  have g3 := hcells.frozen 3
  have g4 := hcells.frozen 4
  have g5 := hcells.frozen 5
  have hlt1 := hcells.lt
  have HX := Lib.hid (hcells.six (.int .i64 xk) (.int .u8 xf) (.slice xsp xm xsc) (.int .u32 xn) (.string X) (.slice xkp xl xkc))
  have HV := Lib.hid hv
  have HBK := Lib.hid hbk
  have HKC := Lib.hid hkc
  have HKI := Lib.hid hki
  have HPR := Lib.hid hpr
  have HTK := Lib.hid htk
  rw [hv]
  clear hv hc hbk hkc hki hpr htk hcells
  go_wp2_with fail
  refine bodyPost_ret (results_k1 _ _ W.heap.size _ _ _ _ _ _ HX.out rfl) rfl ?_
  have e6 := HS0.out
  have htk2 : ∀ (w : World) (i : Nat) (v : Value), Tk W.heap.size w1 w → Tk W.heap.size w1 (w.setCell ⟨W.heap.size, i, none⟩ v) := fun w i v h => h.trans (Tk.set w i v)
  have hall := htk2 _ 5 (.slice xkp xl xkc) (htk2 _ 4 (.string X) (htk2 _ 3 (.int .u32 xn) (htk2 _ 2 (.slice xsp xm xsc) (htk2 _ 1 (.int .u8 xf) (htk2 _ 0 (.int .i64 xk) (Tk.refl _ w1))))))
  have hst := HTK.out.size
  refine ⟨kt, by rw [HV.out], HBK.out, KeyC.keep (KeepUp.tk hall (Nat.lt_succ_self _)) kt HKC.out ?_, HKI.out.mono (by omega), HPR.out.tk hall (by omega), (T0.out.trans HTK.out).fresh hall (Nat.le_refl _)⟩
  have := HKI.out
  rw [e6] at this
  exact this
end Go.Proofs.YtpnnchpaaopdcaaGreatDoor
namespace Go.Proofs.YtpnnchpaaopdcaaGreatDoor
open Go Go.RowKit
variable {W : World} {g : Nat} {s : RS}
mutual
def KeyQ (Q : Nat → Prop) : KT → Prop
  | .mk _ _ set _ _ kids sp _ kp _ => (set ≠ [] → ∀ a, sp = some a → Q a.block) ∧ (kids ≠ [] → ∀ a, kp = some a → Q a.block) ∧ KidsQ Q kids
def KidsQ (Q : Nat → Prop) : List KT → Prop
  | [] => True
  | k :: r => KeyQ Q k ∧ KidsQ Q r
end
mutual
theorem KeyQ.mono {Q Q' : Nat → Prop} (hq : ∀ b, Q b → Q' b) : ∀ k : KT, KeyQ Q k → KeyQ Q' k
  | .mk _ _ set _ _ kids sp _ kp _, h => by
    unfold KeyQ at h ⊢
    exact ⟨fun h1 a e => hq _ (h.1 h1 a e), fun h1 a e => hq _ (h.2.1 h1 a e), KidsQ.mono hq kids h.2.2⟩
theorem KidsQ.mono {Q Q' : Nat → Prop} (hq : ∀ b, Q b → Q' b) : ∀ r : List KT, KidsQ Q r → KidsQ Q' r
  | [], h => by unfold KidsQ; trivial
  | k :: r, h => by
    unfold KidsQ at h ⊢
    exact ⟨KeyQ.mono hq k h.1, KidsQ.mono hq r h.2⟩
end
mutual
theorem KeyQ.of_in {B : Nat} : ∀ k : KT, KeyIn B k → KeyQ (fun b => B ≤ b) k
  | .mk _ _ set _ _ kids sp _ kp _, h => by
    unfold KeyIn at h
    unfold KeyQ
    exact ⟨fun _ a e => h.1 a e, fun _ a e => h.2.1 a e, KidsQ.of_in kids h.2.2⟩
theorem KidsQ.of_in {B : Nat} : ∀ r : List KT, KidsIn B r → KidsQ (fun b => B ≤ b) r
  | [], h => by unfold KidsQ; trivial
  | k :: r, h => by
    unfold KidsIn at h
    unfold KidsQ
    exact ⟨KeyQ.of_in k h.1, KidsQ.of_in r h.2⟩
end
mutual
theorem KeyC.lt {W : World} : ∀ k : KT, KeyC W k → KeyQ (fun b => b < W.heap.size) k
  | .mk _ _ set _ _ kids sp _ kp _, h => by
    unfold KeyC at h
    unfold KeyQ
    refine ⟨fun h1 a e => ?_, fun h1 a e => ?_, KidsC.lt kids kp 0 h.2.2.2.2⟩
    · cases set with
      | nil => exact absurd rfl h1
      | cons x r =>
        obtain ⟨b, off, e2, hb, _⟩ := h.2.2.2.1 0 x rfl
        rw [e] at e2; cases e2; exact hb
    · cases kids with
      | nil => exact absurd rfl h1
      | cons x r =>
        have := h.2.2.2.2
        unfold KidsC at this
        obtain ⟨⟨b, off, e2, hb, _⟩, _⟩ := this
        rw [e] at e2; cases e2; exact hb
theorem KidsC.lt {W : World} : ∀ (r : List KT) (kp : Option Addr) (i : Nat), KidsC W r kp i → KidsQ (fun b => b < W.heap.size) r
  | [], kp, i, h => by unfold KidsQ; trivial
  | k :: r, kp, i, h => by
    unfold KidsC at h
    unfold KidsQ
    obtain ⟨⟨b, off, h1, h2, h3, h4⟩, h5⟩ := h
    exact ⟨KeyC.lt k h4, KidsC.lt r kp (i + 1) h5⟩
end
def KeepQ (Q : Nat → Prop) (W W' : World) : Prop := W.heap.size ≤ W'.heap.size ∧ ∀ b, Q b → b < W.heap.size → W'.heap[b]? = W.heap[b]?
theorem KeepQ.cell {Q : Nat → Prop} {W W' : World} (h : KeepQ Q W W') {b o : Nat} (hb : Q b) (hw : b < W.heap.size) : W'.cell? ⟨b, o, none⟩ = W.cell? ⟨b, o, none⟩ := by
  simp only [World.cell?, h.2 b hb hw]
mutual
theorem KeyC.keepQ {Q : Nat → Prop} {W W' : World} (hk : KeepQ Q W W') : ∀ (k : KT), KeyC W k → KeyQ Q k → KeyC W' k
  | .mk kind flag set n s kids sp scap kp kcap, h, hi => by
    unfold KeyC at h ⊢
    unfold KeyQ at hi
    obtain ⟨h2, h3, hm, h4, h5⟩ := h
    refine ⟨h2, h3, hm, fun i r hr => ?_, KidsC.keepQ hk kids kp 0 h5 hi.2.1 hi.2.2⟩
    obtain ⟨b, off, e, hlt, k1, k2⟩ := h4 i r hr
    have hb : Q b := hi.1 (fun hn => by rw [hn] at hr; simp at hr) _ e
    exact ⟨b, off, e, Nat.lt_of_lt_of_le hlt hk.1, by rw [hk.cell hb hlt]; exact k1, by rw [hk.cell hb hlt]; exact k2⟩
theorem KidsC.keepQ {Q : Nat → Prop} {W W' : World} (hk : KeepQ Q W W') : ∀ (r : List KT) (kp : Option Addr) (i : Nat), KidsC W r kp i → (r ≠ [] → ∀ a, kp = some a → Q a.block) → KidsQ Q r → KidsC W' r kp i
  | [], kp, i, h, hu, hi => by unfold KidsC; trivial
  | k :: r, kp, i, h, hu, hi => by
    unfold KidsC at h ⊢
    unfold KidsQ at hi
    obtain ⟨⟨b, off, h1, h2, h3, h4⟩, h5⟩ := h
    have hb : Q b := hu (by simp) _ h1
    exact ⟨⟨b, off, h1, Nat.lt_of_lt_of_le h2 hk.1, fun j u hj => (hk.cell hb h2).trans (h3 j u hj), KeyC.keepQ hk k h4 hi.1⟩, KidsC.keepQ hk r kp (i + 1) h5 (fun _ => hu (by simp)) hi.2⟩
end
theorem cells_six (k : KT) : k.cells.length = 6 := by cases k; rfl
def cellsK (l : List KT) : List Value := l.flatMap KT.cells
theorem cellsK_cons (k : KT) (r : List KT) : cellsK (k :: r) = k.cells ++ cellsK r := rfl
theorem cellsK_snoc (l : List KT) (k : KT) : cellsK (l ++ [k]) = cellsK l ++ k.cells := by unfold cellsK; rw [List.flatMap_append]; simp
theorem cellsK_at {k : KT} : ∀ (l : List KT) (j : Nat), l[j]? = some k → ∀ q, q < 6 → (cellsK l)[j * 6 + q]? = k.cells[q]?
  | [], j, h, q, hq => by simp at h
  | x :: r, 0, h, q, hq => by
    have hx : x = k := by simpa using h
    subst hx
    rw [cellsK_cons, List.getElem?_append_left (by rw [cells_six]; omega)]
    simp
  | x :: r, j + 1, h, q, hq => by
    rw [cellsK_cons, List.getElem?_append_right (by rw [cells_six]; omega), cells_six, show (j + 1) * 6 + q - 6 = j * 6 + q by omega]
    exact cellsK_at r j (by simpa using h) q hq
theorem kidsIn_of {B : Nat} : ∀ (l : List KT), (∀ k ∈ l, KeyIn B k) → KidsIn B l
  | [], h => by unfold KidsIn; trivial
  | k :: r, h => by unfold KidsIn; exact ⟨h k (by simp), kidsIn_of r fun x hx => h x (by simp [hx])⟩
theorem kids_own {B R cap : Nat} {kts : List KT} (h : W.ownsRow B 37 6 (.slice (some ⟨R, 0, none⟩) kts.length cap) kts.length (cellsK kts)) (ha : ∀ k ∈ kts, KeyC W k) : KidsC W kts (some ⟨R, 0, none⟩) 0 := by
  refine kids_of kts _ 0 fun j k hj => ?_
  have hjl := (List.getElem?_eq_some_iff.1 hj).1
  refine ⟨R, 0, rfl, (h.lt R rfl).2, fun q u hq => ?_, ha k (List.mem_of_getElem? hj)⟩
  have hq6 : q < 6 := by have := (List.getElem?_eq_some_iff.1 hq).1; rw [cells_six] at this; exact this
  rw [show 0 + (0 + j) * 6 + q = j * 6 + q by omega, h.cellAt _ (by omega), cellsK_at kts j hj q hq6, hq]
end Go.Proofs.YtpnnchpaaopdcaaGreatDoor
namespace Go.Proofs.YtpnnchpaaopdcaaGreatDoor
open Go Go.RowKit
variable {W : World} {g : Nat} {s : RS}
theorem Tryz.infoKey9 : (Tryz.prog.info? 37).map (fun i => (i.zero, i.size, i.bytes)) = some (some (.agg #[.int .i64 0, .int .u8 0, .slice none 0 0, .int .u32 0, .string ⟨#[]⟩, .slice none 0 0]), 6, 88) := by kernel_rfl
theorem Tryz.underlyingKids9 : Tryz.prog.underlying 35 = some (.slice 37) := by kernel_rfl
def lenV9 : Value → Nat | .slice _ n _ => n | _ => 0
def KidsDoes (W : World) (g : Nat) (r : List KT × RS) (e : Ending) (w' : World) : Prop :=
  ∃ kts kp kcap, e = .returned (.slice kp kts.length kcap) ∧ bareL kts = r.1 ∧ KidsC w' kts kp 0 ∧ Up W.heap.size kp ∧ KidsIn W.heap.size kts ∧ PR w' g r.2 ∧ Tk g W w'
theorem more_no {rd : RS → KT × RS} {m : Nat} {t : RS} (h : wordB t [32] = false) : moreF rd m t = ([], t) := by
  cases m with
  | zero => rfl
  | succ n => unfold moreF; rw [h]; rfl
theorem more_yes {rd : RS → KT × RS} {m : Nat} {t : RS} (h : wordB t [32] = true) (hm : t.l.length ≤ m) : ∃ m', m = m' + 1 ∧ (wordS t [32]).l.length ≤ m' ∧ moreF rd m t = ((rd (wordS t [32])).1 :: (moreF rd m' (rd (wordS t [32])).2).1, (moreF rd m' (rd (wordS t [32])).2).2) := by
  have hl : 1 ≤ t.l.length := by
    unfold wordB at h
    simp at h
    exact h.2.1
  obtain ⟨m', rfl⟩ : ∃ m', m = m' + 1 := ⟨m - 1, by omega⟩
  refine ⟨m', rfl, ?_, ?_⟩
  · unfold wordS
    rw [h]
    simp
    omega
  · conv => lhs; unfold moreF
    rw [h]; rfl
structure KIn (W : World) (g : Nat) (rd : RS → KT × RS) (r : List KT × RS) (wr : World) (kts : List KT) (R cap n m : Nat) (t : RS) : Prop where
  len : n = kts.length
  pos : 1 ≤ n
  own : wr.ownsRow W.heap.size 37 6 (.slice (some ⟨R, 0, none⟩) n cap) n (cellsK kts)
  keys : ∀ k ∈ kts, KeyC wr k
  up : ∀ k ∈ kts, KeyIn W.heap.size k
  off : ∀ k ∈ kts, KeyQ (fun b => b ≠ R) k
  bare : bareL kts ++ (moreF rd m t).1 = r.1
  last : mustS (moreF rd m t).2 [41] = r.2
  less : t.l.length ≤ m
  small : t.l.length ≤ 1100000
  ok : t.Ok
  cnt : n + m ≤ 1100001
  pr : PR wr g t
  tk : Tk g W wr
theorem KIn.rlt {rd : RS → KT × RS} {r : List KT × RS} {wr : World} {kts : List KT} {R cap n m : Nat} {t : RS} (h : KIn W g rd r wr kts R cap n m t) : W.heap.size ≤ R ∧ R < wr.heap.size := h.own.lt R rfl
theorem KIn.keys_tk {rd : RS → KT × RS} {r : List KT × RS} {wr w' : World} {kts : List KT} {R cap n m : Nat} {t : RS} (h : KIn W g rd r wr kts R cap n m t) (hg : g < W.heap.size) (ht : Tk g wr w') : ∀ k ∈ kts, KeyC w' k := fun k hk =>
  KeyC.keep (KeepUp.tk ht hg) k (h.keys k hk) (h.up k hk)
theorem KIn.own_tk {rd : RS → KT × RS} {r : List KT × RS} {wr w' : World} {kts : List KT} {R cap n m : Nat} {t : RS} (h : KIn W g rd r wr kts R cap n m t) (hg : g < W.heap.size) (ht : Tk g wr w') : w'.ownsRow W.heap.size 37 6 (.slice (some ⟨R, 0, none⟩) n cap) n (cellsK kts) := by
  have hr := h.rlt
  refine ⟨h.own.1, ?_⟩
  rcases h.own.2 with ⟨h1, _⟩ | ⟨b, cap2, cur, h1, h2, h3, h4⟩
  · cases h1
  · cases h1
    exact .inr ⟨R, cap, cur, rfl, h2, (ht.blk R hr.2 (by omega)).trans h3, h4⟩
set_option maxRecDepth 100000 in
set_option maxHeartbeats 4000000 in
theorem sReadKids_c {f : Nat} (ih : ReadAt f) (hf : f ≤ 16) (b2 b3 : Nat) (h : PR W g s) (hok : s.Ok) (hl : s.l.length ≤ 1100000) (hG : Gl W g) (h2 : W.cell? ⟨b2, 0, none⟩ = some (pt g)) (h3 : W.cell? ⟨b3, 0, none⟩ = some (.int .i64 ((16 - f : Nat) : Int))) (hn2 : b2 ≠ g) (hn3 : b3 ≠ g) :
    Calls Tryz.prog 138 #[pt g, .func (.func 133) #[] #[.pointer (some ⟨b2, 0, none⟩), .pointer (some ⟨b3, 0, none⟩)]] W (KidsDoes W g (kidsF (readF f) s)) := by
  obtain ⟨i0, hi0, hz0, hz1, hz2⟩ := info_parts Tryz.infoKey9
  have hgl := Cells.lt h
  obtain ⟨rd, hrd⟩ : ∃ rd, readF f = rd := ⟨_, rfl⟩
  have hfew : ∀ a, a.Ok → Fewer a (rd a).2 := fun a ha => by rw [← hrd]; exact Fewer.read f a ha
  have CK : ∀ (w : World) (t : RS), Tk g W w → PR w g t → t.Ok → t.l.length ≤ 1100000 → Calls Tryz.prog 133 #[.pointer (some ⟨b2, 0, none⟩), .pointer (some ⟨b3, 0, none⟩)] w (ReadDoes w g (rd t)) := fun w t ht hp ho hl => by
    have k2 := ht.cellN h2 hn2
    have k3 := ht.cellN h3 hn3
    rw [← hrd]
    exact sRead1_c ih hf b2 b3 hp ho hl (hG.tk ht) k2 k3 (cell_ltA k2) (cell_ltA k3)
  rw [hrd]
  obtain ⟨r, hr⟩ : ∃ r, kidsF rd s = r := ⟨_, rfl⟩
  rw [hr]
  have HR := Lib.hid hr
  have HFW := Lib.hid hfew
  have C1 := Lib.hid (CK W s (Tk.refl g W) h hok hl)
  have HCK := Lib.hid CK
  have HOK := Lib.hid hok
  have HL := Lib.hid hl
  clear ih hf h hok hl hG h2 h3 hn2 hn3 hrd hr hfew CK
  go_enter Tryz.func138, Tryz.ntmps138
  go_wp2_with fail
  refine C1.out.mono ?_
  rintro e w1 ⟨kt, rfl, hbk, hkc, hki, hpr, htk⟩
  obtain ⟨xk, xf, xm, xn, xl, xsp, xkp, xsc, xkc, X, hv, hc⟩ := kt.form
  rw [hv]
  have hs1 := htk.size
  obtain ⟨w2, hw2⟩ : ∃ w2, w1.alloc (.cells #[.int .i64 xk, .int .u8 xf, .slice xsp xm xsc, .int .u32 xn, .string X, .slice xkp xl xkc] 37) = w2 := ⟨_, rfl⟩
  have hb2 : Below w1.heap.size w1 w2 := by rw [← hw2]; exact (Below.refl _ w1).alloc (Nat.le_refl _) _
  have hh2 : w2.heap[w1.heap.size]? = some (.cells #[.int .i64 xk, .int .u8 xf, .slice xsp xm xsc, .int .u32 xn, .string X, .slice xkp xl xkc] 37 (0, 0)) := by rw [← hw2]; exact heap_alloc_new w1 _
  have hz2' : w2.heap.size = w1.heap.size + 1 := by rw [← hw2]; simp
  have hfw := HFW.out s HOK.out
  have hcl : kt.cells = [.int .i64 xk, .int .u8 xf, .slice xsp xm xsc, .int .u32 xn, .string X, .slice xkp xl xkc] := by
    have := congrArg Array.toList hc; simpa using this
  have K0 : Hid (KIn W g rd r w2 [kt] w1.heap.size 1 1 (rd s).2.l.length (rd s).2) := {
    len := rfl
    pos := Nat.le_refl _
    own := ⟨by unfold cellsK; simp [cells_six], .inr ⟨w1.heap.size, 1, _, rfl, hs1, hh2, Nat.le_refl _, by decide, rfl, by unfold cellsK; simp [hcl]⟩⟩
    keys := fun k hk => by rw [List.mem_singleton.1 hk]; exact KeyC.keep (KeepUp.below hb2) kt hkc hki
    up := fun k hk => by rw [List.mem_singleton.1 hk]; exact hki
    off := fun k hk => by rw [List.mem_singleton.1 hk]; exact KeyQ.mono (fun b hb => by omega) kt (KeyC.lt kt hkc)
    bare := by rw [← HR.out, bareL_map]; simp [hbk, kidsF]
    last := by rw [← HR.out]; rfl
    less := Nat.le_refl _
    small := by have := hfw.2; have := HL.out; omega
    ok := hfw.1
    cnt := by have := hfw.2; have := HL.out; omega
    pr := hpr.tk (Tk.of_below (g := g + 1) hb2) (by omega)
    tk := htk.trans (Tk.of_below hb2) }
  clear hv hc hbk hkc hki hpr htk hb2 hh2 hz2' hfw hcl C1
  go_wp2_with (first | rw [hw2] | fail)
  clear hw2
  go_loopw [5] (fun v wr => ∃ (kts : List KT) (R cap n m : Nat) (t : RS), v = .slice (some ⟨R, 0, none⟩) n cap ∧ n ≤ 1100001 ∧ Hid (KIn W g rd r wr kts R cap n m t)) (fun v _ => 1100002 - lenV9 v)
  case atStart => exact ⟨[kt], _, _, _, _, _, rfl, by omega, K0.out⟩
  case round =>
    obtain ⟨kts, R, cap, n, m, t, rfl, hn9, HI⟩ := hrel
    have e32 : txt [32] = ⟨#[32]⟩ := rfl
    have e41 : txt [41] = ⟨#[41]⟩ := rfl
    have hless := HI.out.less
    have hcnt := HI.out.cnt
    have hsm := HI.out.small
    have CW := tkWord_c HI.out.pr (by omega) [32] (by decide)
    rw [e32] at CW
    obtain ⟨b, hb⟩ : ∃ b, wordB t [32] = b := ⟨_, rfl⟩
    rw [hb] at CW
    have HB := Lib.hid hb
    have CW := Lib.hid CW
    clear hb e32
    cases b with
    | true =>
      obtain ⟨m', rfl, hlm, hmo⟩ := more_yes (rd := rd) HB.out hless
      have HMO := Lib.hid hmo
      have hbnd : ¬ (1100001 : Int) < n := by omega
      clear hmo
      go_wp2_with fail
      refine CW.out.mono ?_
      rintro e w3 ⟨rfl, h3, h4⟩
      have hlt3 := h4.size
      have T3 := Lib.hid (HI.out.tk.trans h4)
      have CK := Lib.hid (HCK.out w3 _ T3.out h3 (HI.out.ok.word _) (by omega))
      have H4 := Lib.hid h4
      clear h3 h4
      go_wp2_with fail
      refine CK.out.mono ?_
      rintro e w4 ⟨kx, rfl, hbk, hkc, hki, hpr, htk⟩
      obtain ⟨yk, yf, ym, yn, yl, ysp, ykp, ysc, ykc, Y, hv, hc⟩ := kx.form
      have hcl : kx.cells = [.int .i64 yk, .int .u8 yf, .slice ysp ym ysc, .int .u32 yn, .string Y, .slice ykp yl ykc] := by
        have := congrArg Array.toList hc; simpa using this
      rw [hv]
      have hrl := HI.out.rlt
      have hs4 := htk.size
      have T4 := Lib.hid (H4.out.trans htk)
      have O4 := Lib.hid (HI.out.own_tk hgl T4.out)
      have Y4 := Lib.hid (HI.out.keys_tk hgl T4.out)
      have TW := Lib.hid (T3.out.trans htk)
      have HBK := Lib.hid hbk
      have HKC := Lib.hid hkc
      have HKI := Lib.hid hki
      have HPR := Lib.hid hpr
      have HCL := Lib.hid hcl
      have hww := TW.out.size
      have hb5 : Below w4.heap.size w4 (w4.alloc (.cells #[.int .i64 yk, .int .u8 yf, .slice ysp ym ysc, .int .u32 yn, .string Y, .slice ykp yl ykc] 37)) := (Below.refl _ w4).alloc (Nat.le_refl _) _
      have HB5 := Lib.hid hb5
      clear hv hc hcl hbk hkc hki hpr htk hb5
      go_wp2_with (at_builtin; refine wpList_append_lies _ rfl (.tmp 11) (.tmp 14) 35 rfl W.heap.size 37 i0 _ 6 88 Tryz.underlyingKids9 hi0 hz0 hz1 hz2 rfl (by decide) _ _ _ rfl (O4.out.alloc _) ⟨w4.heap.size, 0, none⟩ 1 1 [.int .i64 yk, .int .u8 yf, .slice ysp ym ysc, .int .u32 yn, .string Y, .slice ykp yl ykc] rfl rfl (World.news_of_block (cs := #[.int .i64 yk, .int .u8 yf, .slice ysp ym ysc, .int .u32 yn, .string Y, .slice ykp yl ykc]) (t := 37) (fr := (0, 0)) (heap_alloc_new w4 _)) (by simp [Value.oneCell']) (by omega) (by unfold maxLen; omega) (by omega) (by simp; omega) (w4.heap.size + 1) (by simp) ?_; intro g2 cap2 w6 hown6 hgrow hat hlt6; have HO6 := Lib.hid hown6; have HG6 := Lib.hid hgrow; have HA6 := Lib.hid hat; clear hown6 hgrow hat)
      have hz5 : (w4.alloc (.cells #[.int .i64 yk, .int .u8 yf, .slice ysp ym ysc, .int .u32 yn, .string Y, .slice ykp yl ykc] 37)).heap.size = w4.heap.size + 1 := by simp
      have hkeep : KeepQ (fun b => b ≠ R) (w4.alloc (.cells #[.int .i64 yk, .int .u8 yf, .slice ysp ym ysc, .int .u32 yn, .string Y, .slice ykp yl ykc] 37)) w6 := ⟨HG6.out.size, fun b hb hlt => HG6.out.block b hlt (fun e => hb (Option.some.inj (e : some b = some R)))⟩
      have hKc : ∀ k ∈ kts ++ [kx], KeyC (w4.alloc (.cells #[.int .i64 yk, .int .u8 yf, .slice ysp ym ysc, .int .u32 yn, .string Y, .slice ykp yl ykc] 37)) k := fun k hk => by
        rcases List.mem_append.1 hk with hk | hk
        · exact KeyC.below HB5.out k (Y4.out k hk)
        · rw [List.mem_singleton.1 hk]; exact KeyC.below HB5.out kx HKC.out
      have hKo : ∀ k ∈ kts ++ [kx], KeyQ (fun b => b ≠ R) k := fun k hk => by
        rcases List.mem_append.1 hk with hk | hk
        · exact HI.out.off k hk
        · rw [List.mem_singleton.1 hk]; exact KeyQ.mono (fun b hb => by omega) kx (KeyQ.of_in kx HKI.out)
      have hfw := HFW.out (wordS t [32]) (HI.out.ok.word _)
      have hfl := hfw.2
      have hmo := HMO.out
      have KN : Hid (KIn W g rd r w6 (kts ++ [kx]) g2 cap2 (n + 1) m' (rd (wordS t [32])).2) := {
        len := by rw [List.length_append, HI.out.len]; rfl
        pos := by omega
        own := by rw [cellsK_snoc, HCL.out]; exact HO6.out
        keys := fun k hk => KeyC.keepQ hkeep k (hKc k hk) (hKo k hk)
        up := fun k hk => by
          rcases List.mem_append.1 hk with hk | hk
          · exact HI.out.up k hk
          · rw [List.mem_singleton.1 hk]; exact KeyIn.mono (by have := HI.out.tk.size; omega) kx HKI.out
        off := fun k hk => by
          rcases HA6.out with e | e
          · have e2 : R = g2 := Option.some.inj (e : some R = some g2)
            rw [← e2]; exact hKo k hk
          · exact KeyQ.mono (fun b hb => by omega) k (KeyC.lt k (hKc k hk))
        bare := by
          have := HI.out.bare
          rw [hmo] at this
          rw [← this, bareL_map, bareL_map, List.map_append]
          simp [HBK.out]
        last := by
          have := HI.out.last
          rw [hmo] at this
          exact this
        less := by omega
        small := by omega
        ok := hfw.1
        cnt := by have := HI.out.cnt; omega
        pr := by
          have h1 := HPR.out.tk (Tk.of_below (g := g + 1) HB5.out) (by omega)
          exact Cells.later h1 (HG6.out.block g (Cells.lt h1) (fun e => by have h9 : g = R := Option.some.inj (e : some g = some R); omega))
        tk := by
          have h1 := TW.out.trans (Tk.of_below (g := g) HB5.out)
          refine ⟨HG6.out.os.trans h1.os, HG6.out.tape.trans h1.tape, HG6.out.output.trans h1.output, Nat.le_trans h1.size HG6.out.size, fun k hk hkg => ?_⟩
          have := h1.size
          exact (HG6.out.block k (by omega) (fun e => by have h9 : k = R := Option.some.inj (e : some k = some R); omega)).trans (h1.blk k hk hkg) }
      clear hkeep hKc hKo hfw hmo hz5
      have hn10 : n + 1 ≤ 1100001 := by have := HI.out.cnt; omega
      go_wp2_with fail
      go_roundw
      case rel => exact ⟨kts ++ [kx], g2, cap2, n + 1, m', _, rfl, hn10, KN.out⟩
      case measure => simp [lenV9]; omega
    | false =>
      have hmo := more_no (rd := rd) (m := m) HB.out
      have hba := HI.out.bare
      have hla := HI.out.last
      rw [hmo] at hba hla
      have HBA := Lib.hid hba
      have HLA := Lib.hid hla
      clear hmo hba hla
      go_wp2_with fail
      refine CW.out.mono ?_
      rintro e w3 ⟨rfl, h3, h4⟩
      rw [wordS_no HB.out] at h3
      have T3 := Lib.hid (HI.out.tk.trans h4)
      have CQ := tkWord_c h3 (by omega) [41] (by decide)
      rw [e41] at CQ
      have H4 := Lib.hid h4
      have H3 := Lib.hid h3
      obtain ⟨b, hb⟩ : ∃ b, wordB t [41] = b := ⟨_, rfl⟩
      rw [hb] at CQ
      have HB2 := Lib.hid hb
      have CQ := Lib.hid CQ
      have fin : ∀ w' : World, PR w' g r.2 → Tk g w3 w' → KidsDoes W g r (.returned (.slice (some ⟨R, 0, none⟩) n cap)) w' := fun w' hp ht => by
        have t9 := H4.out.trans ht
        have hrl := HI.out.rlt
        refine ⟨kts, _, cap, by rw [← HI.out.len], by rw [← HBA.out]; simp, ?_, fun a e => by cases e; exact hrl.1, kidsIn_of kts HI.out.up, hp, T3.out.trans ht⟩
        have ho := HI.out.own_tk hgl t9
        rw [HI.out.len] at ho
        exact kids_own ho (HI.out.keys_tk hgl t9)
      have FIN := Lib.hid fin
      clear h3 h4 hb fin e41
      cases b with
      | true =>
        go_wp2_with fail
        refine CQ.out.mono ?_
        rintro e w4 ⟨rfl, h5, h6⟩
        have hz : wordS t [41] = r.2 := by rw [← HLA.out]; unfold wordS mustS; rw [HB2.out]; rfl
        rw [hz] at h5
        have HZ := Lib.hid (FIN.out w4 h5 h6)
        clear h5 h6 hz
        go_wp2_with fail
        go_ret
        exact HZ.out
      | false =>
        go_wp2_with fail
        refine CQ.out.mono ?_
        rintro e w4 ⟨rfl, h5, h6⟩
        have C4 := Lib.hid (tkFail_c h5)
        have H6 := Lib.hid h6
        clear h5 h6
        go_wp2_with fail
        refine C4.out.mono ?_
        rintro e w5 ⟨rfl, h7, h8⟩
        have hz : RS.gone = r.2 := by rw [← HLA.out]; unfold mustS; rw [HB2.out]; rfl
        rw [hz] at h7
        have HZ := Lib.hid (FIN.out w5 h7 (H6.out.trans h8))
        clear h7 h8 hz
        go_wp2_with fail
        go_ret
        exact HZ.out
end Go.Proofs.YtpnnchpaaopdcaaGreatDoor
namespace Go.Proofs.YtpnnchpaaopdcaaGreatDoor
open Go Go.RowKit
variable {W : World} {g : Nat} {s : RS}
theorem results_k4 (tmps : Array Value) (w : World) (B : Nat) (a b c d e f : Value) (h : Cells w B 37 #[a, b, c, d, e, f]) (h2 : tmps.getD 4 undef = .pointer (some ⟨B, 0, none⟩)) :
    (results Tryz.f74 tmps).run Tryz.prog w = .ok (.agg #[a, b, c, d, e, f]) w := by
  have c0 := h.cell (i := 0) rfl
  have c1 := h.cell (i := 1) rfl
  have c2 := h.cell (i := 2) rfl
  have c3 := h.cell (i := 3) rfl
  have c4 := h.cell (i := 4) rfl
  have c5 := h.cell (i := 5) rfl
  have h2' : tmps[4]?.getD undef = .pointer (some ⟨B, 0, none⟩) := by simpa using h2
  simp [results, Tryz.f74, go_sem, h2', c0, c1, c2, c3, c4, c5]
theorem three_boxes (W : World) (g : Nat) (d : Int) : ∃ w0, ((W.alloc (.cells #[pt g] 56)).alloc (.cells #[.int .i64 d] 3)).alloc (.cells #[.int .i64 0, .int .u8 0, .slice none 0 0, .int .u32 0, .string ⟨#[]⟩, .slice none 0 0] 37) = w0 ∧
    Below W.heap.size W w0 ∧ w0.heap.size = W.heap.size + 3 ∧ w0.cell? ⟨W.heap.size, 0, none⟩ = some (pt g) ∧ w0.cell? ⟨W.heap.size + 1, 0, none⟩ = some (.int .i64 d) ∧
    Cells w0 (W.heap.size + 1 + 1) 37 #[.int .i64 0, .int .u8 0, .slice none 0 0, .int .u32 0, .string ⟨#[]⟩, .slice none 0 0] := by
  refine ⟨_, rfl, ?_, by simp, ?_, ?_, ?_⟩
  · exact (((Below.refl _ W).alloc (Nat.le_refl _) _).alloc (by simp) _).alloc (by simp; omega) _
  · have h := heap_alloc_new W (.cells #[pt g] 56)
    have h2 : (((W.alloc (.cells #[pt g] 56)).alloc (.cells #[.int .i64 d] 3)).alloc (.cells #[.int .i64 0, .int .u8 0, .slice none 0 0, .int .u32 0, .string ⟨#[]⟩, .slice none 0 0] 37)).heap[W.heap.size]? = some (.cells #[pt g] 56 (0, 0)) := by
      rw [Below.heap_alloc _ _ _ (by simp; omega), Below.heap_alloc _ _ _ (by simp)]
      exact h
    exact Cells.cell (i := 0) h2 rfl
  · have h := heap_alloc_new (W.alloc (.cells #[pt g] 56)) (.cells #[.int .i64 d] 3)
    rw [World.size_alloc] at h
    have h2 : (((W.alloc (.cells #[pt g] 56)).alloc (.cells #[.int .i64 d] 3)).alloc (.cells #[.int .i64 0, .int .u8 0, .slice none 0 0, .int .u32 0, .string ⟨#[]⟩, .slice none 0 0] 37)).heap[W.heap.size + 1]? = some (.cells #[.int .i64 d] 3 (0, 0)) := by
      rw [Below.heap_alloc _ _ _ (by simp)]
      exact h
    exact Cells.cell (i := 0) h2 rfl
  · have h := heap_alloc_new ((W.alloc (.cells #[pt g] 56)).alloc (.cells #[.int .i64 d] 3)) (.cells #[.int .i64 0, .int .u8 0, .slice none 0 0, .int .u32 0, .string ⟨#[]⟩, .slice none 0 0] 37)
    rw [World.size_alloc, World.size_alloc] at h
    exact h
structure RD (W : World) (g B K : Nat) (d : Int) (t : RS) (c : Array Value) (w : World) : Prop where
  hg : g < W.heap.size
  hB : W.heap.size ≤ B
  hK : B < K
  two : w.cell? ⟨W.heap.size, 0, none⟩ = some (pt g)
  three : w.cell? ⟨W.heap.size + 1, 0, none⟩ = some (.int .i64 d)
  hB2 : W.heap.size + 1 < B
  ck : Cells w K 37 c
  cr : Cells w B 37 #[.int .i64 0, .int .u8 0, .slice none 0 0, .int .u32 0, .string ⟨#[]⟩, .slice none 0 0]
  tk : Tk g W w
  pr : PR w g t
theorem RD.tk' {B K : Nat} {d : Int} {t t' : RS} {c : Array Value} {w w' : World} (h : RD W g B K d t c w) (ht : Tk g w w') (hp : PR w' g t') : RD W g B K d t' c w' :=
  ⟨h.hg, h.hB, h.hK, ht.cellN h.two (by have := h.hg; omega), ht.cellN h.three (by have := h.hg; omega), h.hB2, Cells.later h.ck (ht.blk _ (Cells.lt h.ck) (by have := h.hg; have := h.hB; have := h.hK; omega)),
    Cells.later h.cr (ht.blk _ (Cells.lt h.cr) (by have := h.hg; have := h.hB; omega)), h.tk.trans ht, hp⟩
theorem RD.below {B K : Nat} {d : Int} {t : RS} {c : Array Value} {w w' : World} (h : RD W g B K d t c w) (hb : Below w.heap.size w w') : RD W g B K d t c w' :=
  h.tk' (Tk.of_below hb) (h.pr.tk (Tk.of_below (g := g + 1) hb) (by omega))
theorem RD.set {B K : Nat} {d : Int} {t : RS} {c : Array Value} {w : World} (h : RD W g B K d t c w) (i : Nat) (v : Value) : RD W g B K d t (c.setIfInBounds i v) (w.setCell ⟨K, i, none⟩ v) := by
  have h1 := h.hg
  have h2 := h.hB
  have h3 := h.hK
  have h4 := h.hB2
  have ht := Tk.set (g := K) w i v
  exact ⟨h.hg, h.hB, h.hK, ht.cellN h.two (by omega), ht.cellN h.three (by omega), h.hB2, h.ck.set i v, Cells.later h.cr (ht.blk _ (Cells.lt h.cr) (by omega)), h.tk.fresh ht (by omega), h.pr.tk ht (by omega)⟩
theorem RD.fin {B K : Nat} {d : Int} {t : RS} {a0 a1 a2 a3 a4 a5 : Value} {w : World} (h : RD W g B K d t #[a0, a1, a2, a3, a4, a5] w) (kt : KT) (hc : kt.cells = [a0, a1, a2, a3, a4, a5]) (U : Nat) (hU : K < U) (hk : KeyC w kt) (hi : KeyIn U kt) (r : KT × RS) (hr : (bareK kt, t) = r) :
    ReadDoes W g r (.returned (.agg #[a0, a1, a2, a3, a4, a5])) ((((((w.setCell ⟨B, 0, none⟩ a0).setCell ⟨B, 1, none⟩ a1).setCell ⟨B, 2, none⟩ a2).setCell ⟨B, 3, none⟩ a3).setCell ⟨B, 4, none⟩ a4).setCell ⟨B, 5, none⟩ a5) := by
  have h1 := h.hg
  have h2 := h.hB
  have h3 := h.hK
  have ht : ∀ (x : World) (i : Nat) (v : Value), Tk B w x → Tk B w (x.setCell ⟨B, i, none⟩ v) := fun x i v h => h.trans (Tk.set x i v)
  have hall := ht _ 5 a5 (ht _ 4 a4 (ht _ 3 a3 (ht _ 2 a2 (ht _ 1 a1 (ht _ 0 a0 (Tk.refl _ w))))))
  subst hr
  refine ⟨kt, by unfold KT.val; rw [hc], rfl, KeyC.keep (KeepUp.tk hall (by omega)) kt hk hi, KeyIn.mono (by omega) kt hi, h.pr.tk hall (by omega), h.tk.fresh hall (by omega)⟩
end Go.Proofs.YtpnnchpaaopdcaaGreatDoor
namespace Go.Proofs.YtpnnchpaaopdcaaGreatDoor
open Go Go.RowKit Go.Shelf
attribute [local go_sem] Oper.semAt_some wide_fnK wide_depthK
theorem pre_key {W : World} : ∀ (k : KT), KeyC W k → ∀ x ∈ preK k, KeyC W x := by
  intro k
  refine KT.ind (P := fun k => KeyC W k → ∀ x ∈ preK k, KeyC W x) ?_ k
  intro kind flag set n s kids sp scap kp kcap ih hK x hx
  rw [preK_eq] at hx
  rcases List.mem_cons.1 hx with rfl | hx
  · exact hK
  · have hk : ∀ y ∈ kids, KeyC W y := fun y hy => hK.kid hy
    have : ∀ (l : List KT), (∀ y ∈ l, y ∈ kids) → x ∈ preKs l → KeyC W x := by
      intro l
      induction l with
      | nil => intro _ h; rw [preKs] at h; simp at h
      | cons y r ihr =>
        intro hl h
        rw [preKs] at h
        rcases List.mem_append.1 h with h | h
        · exact ih y (hl y (by simp)) (hk y (hl y (by simp))) x h
        · exact ihr (fun z hz => hl z (by simp [hz])) h
    exact this kids (fun y hy => hy) hx
set_option maxRecDepth 100000 in
theorem sRight1_c (x : KT) (W : World) (hx : KeyC W x) : Calls Tryz.prog 64 #[x.val] W fun e w' => e = .returned (.bool (nodeK x)) ∧ Below W.heap.size W w' := by
  cases x with
  | mk kind flag set n s kids sp scap kp kcap =>
    obtain ⟨_, _, hfl, _⟩ := hx.kids
    rw [nodeK]
    show Calls Tryz.prog 64 #[.agg #[.int .i64 kind, .int .u8 flag, .slice sp set.length scap, .int .u32 n, .string (txt s), .slice kp kids.length kcap]] W _
    have C := fun w => sfits_c (kind := kind) (fl := flag) (M := set.length) (n := n) (N := kids.length) (s := s) (sp := sp) (kp := kp) (scap := scap) (kcap := kcap) w hfl
    obtain ⟨b, hb⟩ : ∃ b, decide (NodeP kind flag set.length n s.length kids.length) = b := ⟨_, rfl⟩
    obtain ⟨M, hM⟩ : ∃ M, set.length = M := ⟨_, rfl⟩
    obtain ⟨N, hN⟩ : ∃ N, kids.length = N := ⟨_, rfl⟩
    obtain ⟨X, hX⟩ : ∃ X, txt s = X := ⟨_, rfl⟩
    rw [hb, hM, hN, hX] at C
    rw [hb, hM, hN, hX]
    have C := Lib.hid C
    have HB : Hid (Below W.heap.size W (W.alloc (.cells #[.int .i64 kind, .int .u8 flag, .slice sp M scap, .int .u32 n, .string X, .slice kp N kcap] 37))) := (Below.refl _ _).alloc (Nat.le_refl _) _
    clear hx hfl hb hM hN hX
    go_enter Tryz.func64, Tryz.ntmps64
    go_wp2_with fail
    refine (C.out _).mono ?_
    rintro e w2 ⟨rfl, hb2⟩
    have HB2 := Lib.hid (HB.out.trans (hb2.mono (by simp)))
    clear hb2
    go_wp2_with fail
    go_ret
    exact ⟨rfl, HB2.out⟩
set_option maxRecDepth 100000 in
set_option maxHeartbeats 4000000 in
theorem sEach_c (k : KT) (W : World) (hK : KeyC W k) : Calls Tryz.prog 63 #[k.val, .func (.func 64) #[] #[]] W fun e w' => e = .returned (.bool ((preK k).all nodeK)) ∧ Below W.heap.size W w' := by
  have CK := fun w => keys_c k w
  have HIT := keys1_iter k W
  have HKX := Lib.hid fun x hx => pre_key k hK x hx
  obtain ⟨yk, yf, ym, yn, yl, ysp, ykp, ysc, ykc, Y, hyv, hyc⟩ := k.form
  simp only [hyv] at CK
  rw [hyv]
  have CK := Lib.hid CK
  have HK := Lib.hid hK
  clear hyv hK hyc
  refine (callsIn_wide (n := 3)).1 ?_
  refine callsIn_of_wp_marks Tryz.func63 rfl trivial ?_
  simp only [Tryz.ntmps63, List.size_toArray, List.length_cons, List.length_nil, Nat.reduceAdd, Nat.reduceSub, Array.replicate_succ, Array.replicate_zero, List.push_toArray, List.append_toArray, List.nil_append, List.cons_append]
  gi_wp2_with (gi_at_call 73; refine CallsIn.w (CK.out _) ?_; rintro e w7 ⟨rfl, hbx7, hb7, hsz7⟩)
  obtain ⟨w0, hw0⟩ : ∃ w0, ((W.alloc (.cells #[.int .i64 yk, .int .u8 yf, .slice ysp ym ysc, .int .u32 yn, .string Y, .slice ykp yl ykc] 37)).alloc (.cells #[.func (.func 64) #[] #[]] 46)).alloc (.cells #[.bool false] 4) = w0 := ⟨_, rfl⟩
  have hb0 : Below W.heap.size W w0 := by rw [← hw0]; exact (((Below.refl _ W).alloc (Nat.le_refl _) _).alloc (by simp) _).alloc (by simp; omega) _
  have hsz0 : w0.heap.size = W.heap.size + 3 := by rw [← hw0]; simp
  have bA0 : Boxed w0 (W.heap.size + 1) 46 (.func (.func 64) #[] #[]) := by
    have := (Boxed.new (W.alloc (.cells #[.int .i64 yk, .int .u8 yf, .slice ysp ym ysc, .int .u32 yn, .string Y, .slice ykp yl ykc] 37)) 46 (.func (.func 64) #[] #[])).alloc (.cells #[.bool false] 4)
    rw [World.size_alloc, hw0] at this; exact this
  have bR0 : Boxed w0 (W.heap.size + 2) 4 (.bool false) := by
    have := Boxed.new ((W.alloc (.cells #[.int .i64 yk, .int .u8 yf, .slice ysp ym ysc, .int .u32 yn, .string Y, .slice ykp yl ykc] 37)).alloc (.cells #[.func (.func 64) #[] #[]] 46)) 4 (.bool false)
    rw [World.size_alloc, World.size_alloc, hw0] at this; exact this
  rw [hw0, hsz0] at hbx7 hb7 hsz7
  have bA := (hb7.block _ (by omega)).trans bA0
  have bR := (hb7.block _ (by omega)).trans bR0
  have hB7 : Below W.heap.size W w7 := hb0.trans (hb7.mono (by omega))
  have hkc : SKC W (W.heap.size + 3) k w7 := ⟨hbx7, hB7.size, hB7.block⟩
  have HKC := Lib.hid hkc
  clear hw0 hb0 hsz0 bA0 bR0 hkc hbx7 hb7
  refine wpIn_rangeIterL (gf := 132) (lb := #[.pointer (some ⟨W.heap.size + 3, 0, none⟩)]) (by first | rfl | (simp [Act.eval, Operand.eval])) (enters_of Tryz.func132 (by kernel_rfl) rfl) (HIT (W.heap.size + 3) HK.out) (fun _ => False) (fun _ h => h.elim) (fun _ => rfl)
    (fun j hj => by
      rcases hj with rfl | hj
      · omega
      · omega)
    (fun W' hW' => HKC.out.below hW')
    (fun pre W' => pre.all nodeK = true ∧ Boxed W' (W.heap.size + 1) 46 (.func (.func 64) #[] #[]) ∧ Boxed W' (W.heap.size + 2) 4 (.bool false) ∧ Below W.heap.size W W' ∧ w7.heap.size ≤ W'.heap.size)
    (fun c pre W' => c = .ret ∧ (preK k).all nodeK = false ∧ Boxed W' (W.heap.size + 2) 4 (.bool false) ∧ Below W.heap.size W W')
    (fun s' A B h hAB => ⟨h.1, hAB.boxed h.2.1 (.inl (by omega)), hAB.boxed h.2.2.1 (.inl (by omega)), h.2.2.2.1.trans (hAB.toBelow.mono (by omega)), Nat.le_trans h.2.2.2.2 hAB.size⟩)
    (fun c s' A B h hAB => ⟨h.1, h.2.1, hAB.boxed h.2.2.1 (.inl (by omega)), h.2.2.2.trans (hAB.toBelow.mono (by omega))⟩)
    ⟨rfl, bA, bR, hB7, Nat.le_refl _⟩ ?round ?done ?stop
  case round =>
    rintro l' pre x W1 hl ⟨rr, hrr⟩ ⟨hp, ha, hr, hb, hs1⟩ hst
    have hl1 : l' < W1.heap.size := (Array.getElem?_eq_some_iff.1 hrr).1
    have hxm : x ∈ preK k := (List.IsPrefix.subset hst) (show x ∈ pre ++ [x] by simp)
    obtain ⟨xk, xf, xm, xn, xl, xsp, xkp, xsc, xkc, Z, hxv, hxc⟩ := x.form
    have HXV := Lib.hid hxv
    have HXC := Lib.hid hxc
    clear hrr hst hxc
    rw [hxv]
    clear hxv
    gi_wp2_with fail
    refine ⟨Keeps.alloc _ _ _ _ _, fun W2 hits hsz2 hrec hoth => ?_⟩
    have hit2 : Itself skT0 w7.heap.size W1 W2 := (Itself.alloc _ _ _ hs1).trans hits
    have ha2 := hit2.boxed ha (.inl (by omega))
    have hr2 := hit2.boxed hr (.inl (by omega))
    have hb2 := hb.trans (hit2.toBelow.mono (show W.heap.size ≤ w7.heap.size by omega))
    have hs2 : w7.heap.size ≤ W2.heap.size := Nat.le_trans hs1 hit2.size
    have hbn : Box6 W2 W1.heap.size x := by
      have h1 := (hoth _ (by omega)).trans (heap_alloc_new W1 (.cells #[.int .i64 xk, .int .u8 xf, .slice xsp xm xsc, .int .u32 xn, .string Z, .slice xkp xl xkc] 37))
      rw [← HXC.out] at h1
      exact h1
    have hcell : ∀ (q : Nat) (u : Value), (#[.int .i64 xk, .int .u8 xf, .slice xsp xm xsc, .int .u32 xn, .string Z, .slice xkp xl xkc] : Array Value)[q]? = some u → W2.cell? ⟨W1.heap.size, q, none⟩ = some u := fun q u hu => by
      rw [← HXC.out] at hu; exact hbn.cell (by simpa using hu)
    have d0 := hcell 0 _ rfl
    have d1 := hcell 1 _ rfl
    have d2 := hcell 2 _ rfl
    have d3 := hcell 3 _ rfl
    have d4 := hcell 4 _ rfl
    have d5 := hcell 5 _ rfl
    have ca := ha2.cell
    have cr := hr2.cell
    have fr := hr2.frozen
    have lx : W1.heap.size < W2.heap.size := hbn.lt
    have CR := sRight1_c x W2 ((HKX.out x hxm).below hb2)
    rw [HXV.out] at CR
    have HR2 := Lib.hid hr2
    have HA2 := Lib.hid ha2
    have HB2 := Lib.hid hb2
    have HP := Lib.hid hp
    have HXM := Lib.hid hxm
    obtain ⟨bx, hbx⟩ : ∃ b, nodeK x = b := ⟨_, rfl⟩
    rw [hbx] at CR
    have CR := Lib.hid CR
    have HBX := Lib.hid hbx
    clear hits hit2 ha2 hr2 hb2 hbn hcell hoth hsz2 hrec hp ha hr hb hxm hbx
    cases bx with
    | true =>
      gi_wp2_with fail
      refine CallsIn.wr CR.out ?_
      rintro e W3 ⟨rfl, hb3⟩
      have HB3 := Lib.hid hb3
      clear hb3 cr fr ca d0 d1 d2 d3 d4 d5
      gi_wp2_with fail
      refine ⟨Keeps.of_below HB3.out, ?_, (HB3.out.block _ (lt_of_block HA2.out)).trans HA2.out, (HB3.out.block _ (lt_of_block HR2.out)).trans HR2.out, HB2.out.trans (HB3.out.mono HB2.out.size), Nat.le_trans hs2 HB3.out.size⟩
      rw [List.all_append, HP.out]; simp [HBX.out]
    | false =>
      gi_wp2_with fail
      refine CallsIn.wr CR.out ?_
      rintro e W3 ⟨rfl, hb3⟩
      have hr3 : Boxed W3 (W.heap.size + 2) 4 (.bool false) := (hb3.block _ (lt_of_block HR2.out)).trans HR2.out
      have HB3 := Lib.hid hb3
      have HR3 := Lib.hid hr3
      have cr3 := hr3.cell
      have fr3 := hr3.frozen
      have lr3 := lt_of_block hr3
      clear hb3 cr fr ca d0 d1 d2 d3 d4 d5 hr3
      gi_wp2_with fail
      refine ⟨(Keeps.of_below HB3.out).trans (Keeps.setCell _ _ ⟨W.heap.size + 2, 0, none⟩ _ (by unfold capK; simp) (by show W.heap.size + 2 < w7.heap.size; omega)), rfl, ?_, HR3.out.set _, (HB2.out.trans (HB3.out.mono HB2.out.size)).setCell (p := ⟨W.heap.size + 2, 0, none⟩) (by simp) _⟩
      cases h : (preK k).all nodeK with
      | false => rfl
      | true => have := List.all_eq_true.1 h x HXM.out; rw [HBX.out] at this; cases this
  case done =>
    rintro D xs W1 hD rfl ⟨hp, ha, hr, hb, hs1⟩ hK
    have HP := Lib.hid hp
    have HB := Lib.hid hb
    have HR := Lib.hid hr
    have cr := hr.cell
    have fr := hr.frozen
    have HK := Lib.hid hK
    have lr := lt_of_block hr
    clear hp ha hr hb hK
    gi_wp2_with fail
    have hK' : (W1.setCell ⟨W.heap.size + 2, 0, none⟩ (.bool true)).heap[D]? = some (.deferred (some [])) := (Below.heap_setCell W1 ⟨W.heap.size + 2, 0, none⟩ _ D (by show D ≠ W.heap.size + 2; omega)).trans HK.out
    refine ⟨by simp, .inl ⟨_, _, rfl, run_takeDeferred hK', ?_⟩⟩
    have hc5 := cell_kept (HR.out.set (.bool true)).cell (grownBy_putObj' _ D (.deferred none)) (fun r e => by cases e; exact ⟨_, hK', rfl⟩)
    refine ⟨.bool true, ?_, by rw [HP.out], (HB.out.setCell (p := ⟨W.heap.size + 2, 0, none⟩) (by simp) _).trans (belowK_b (w := W) (Nat.le_refl _) _ D _ _ (by omega) hK' rfl rfl)⟩
    simp [results, Tryz.f63, go_sem, hc5]
  case stop =>
    rintro D c pre W1 hD hS ⟨rfl, hf, hr, hb⟩ hK
    have HB := Lib.hid hb
    have HR := Lib.hid hr
    have HK := Lib.hid hK
    have HF := Lib.hid hf
    clear hr hb hK hf
    gi_wp2_with fail
    refine ⟨by simp, .inl ⟨_, _, rfl, run_takeDeferred HK.out, ?_⟩⟩
    have hc5 := cell_kept HR.out.cell (grownBy_putObj' _ D (.deferred none)) (fun r e => by cases e; exact ⟨_, HK.out, rfl⟩)
    refine ⟨_, ?_, by rw [HF.out], HB.out.trans (belowK_b (w := W) (Nat.le_refl _) _ D _ _ (by omega) HK.out rfl rfl)⟩
    simp [results, Tryz.f63, go_sem, hc5]
theorem rightK_eq (k : KT) : ∀ d : Int, rightK k d = (withinK k d && (preK k).all nodeK) := by
  refine KT.ind (P := fun k => ∀ d : Int, rightK k d = (withinK k d && (preK k).all nodeK)) ?_ k
  intro kind flag set n s kids sp scap kp kcap ih d
  have hl : ∀ (l : List KT), (∀ y ∈ l, y ∈ kids) → rightL l (d - 1) = (withinL l (d - 1) && (preKs l).all nodeK) := by
    intro l
    induction l with
    | nil => intro _; rw [rightL, withinL, preKs]; rfl
    | cons y r ihr =>
      intro hy
      rw [rightL, withinL, preKs, List.all_append, ih y (hy y (by simp)), ihr (fun z hz => hy z (by simp [hz]))]
      cases withinK y (d - 1) <;> cases (preK y).all nodeK <;> cases withinL r (d - 1) <;> rfl
  rw [rightK, withinK, preK, List.all_cons, nodeK, hl kids (fun y hy => hy), show decide (1 ≤ d) = decide (0 < d) by congr 1]
  cases decide (0 < d) <;> cases decide (NodeP kind flag set.length n s.length kids.length) <;> cases withinL kids (d - 1) <;> rfl
set_option maxRecDepth 100000 in
set_option maxHeartbeats 1000000 in
theorem sRight_c (k : KT) (W : World) (hK : KeyC W k) : Calls Tryz.prog 16 #[k.val] W fun e w' => e = .returned (.bool (rightK k 16)) ∧ Below W.heap.size W w' := by
  rw [rightK_eq]
  have C1 := fun w hb => sWithin_c k 16 w (by omega) (by omega) (hK.below (W' := w) hb)
  have C2 := fun w hb => sEach_c k w (hK.below (W' := w) hb)
  obtain ⟨yk, yf, ym, yn, yl, ysp, ykp, ysc, ykc, Y, hyv, hyc⟩ := k.form
  rw [hyv] at C1 C2
  rw [hyv]
  obtain ⟨b1, hb1⟩ : ∃ b, withinK k 16 = b := ⟨_, rfl⟩
  obtain ⟨b2, hb2⟩ : ∃ b, (preK k).all nodeK = b := ⟨_, rfl⟩
  rw [hb1] at C1
  rw [hb2] at C2
  rw [hb1, hb2]
  have HB : Hid (Below W.heap.size W (W.alloc (.cells #[.int .i64 yk, .int .u8 yf, .slice ysp ym ysc, .int .u32 yn, .string Y, .slice ykp yl ykc] 37))) := (Below.refl _ _).alloc (Nat.le_refl _) _
  have c0 := C1 _ HB.out
  have C1 := Lib.hid c0
  have C2 := Lib.hid C2
  have hbox : Box6 (W.alloc (.cells #[.int .i64 yk, .int .u8 yf, .slice ysp ym ysc, .int .u32 yn, .string Y, .slice ykp yl ykc] 37)) W.heap.size k := by
    have := heap_alloc_new W (.cells #[.int .i64 yk, .int .u8 yf, .slice ysp ym ysc, .int .u32 yn, .string Y, .slice ykp yl ykc] 37)
    rw [← hyc] at this ⊢
    exact this
  have HBOX := Lib.hid hbox
  have HYC := Lib.hid hyc
  obtain ⟨w0, hw0⟩ : ∃ w0, W.alloc (.cells #[.int .i64 yk, .int .u8 yf, .slice ysp ym ysc, .int .u32 yn, .string Y, .slice ykp yl ykc] 37) = w0 := ⟨_, rfl⟩
  rw [hw0] at HB C1 HBOX
  have HW0 := Lib.hid hw0
  clear c0 hK hyv hyc hb1 hb2 hbox hw0
  cases b1 with
  | false =>
    rw [Bool.false_and]
    go_enter Tryz.func16, Tryz.ntmps16
    go_wp2_with fail
    rw [HW0.out]
    refine C1.out.mono ?_
    rintro e w2 ⟨rfl, hb⟩
    have HB2 := Lib.hid (HB.out.trans (hb.mono HB.out.size))
    clear hb
    go_wp2_with fail
    go_ret
    exact ⟨rfl, HB2.out⟩
  | true =>
    rw [Bool.true_and]
    go_enter Tryz.func16, Tryz.ntmps16
    go_wp2_with fail
    rw [HW0.out]
    refine C1.out.mono ?_
    rintro e w2 ⟨rfl, hb⟩
    have hbox2 : Box6 w2 W.heap.size k := (hb.block _ HBOX.out.lt).trans HBOX.out
    have hcell : ∀ (q : Nat) (u : Value), (#[.int .i64 yk, .int .u8 yf, .slice ysp ym ysc, .int .u32 yn, .string Y, .slice ykp yl ykc] : Array Value)[q]? = some u → w2.cell? ⟨W.heap.size, q, none⟩ = some u := fun q u hu => by
      rw [← HYC.out] at hu; exact hbox2.cell (by simpa using hu)
    have d0 := hcell 0 _ rfl
    have d1 := hcell 1 _ rfl
    have d2 := hcell 2 _ rfl
    have d3 := hcell 3 _ rfl
    have d4 := hcell 4 _ rfl
    have d5 := hcell 5 _ rfl
    have lb := hbox2.lt
    have HB2 := Lib.hid (HB.out.trans (hb.mono HB.out.size))
    have C := Lib.hid (C2.out _ HB2.out)
    clear hb hbox2 hcell
    cases b2
    all_goals
      go_wp2_with fail
      refine C.out.mono ?_
      rintro e w3 ⟨rfl, hb⟩
      have HB3 := Lib.hid (HB2.out.trans (hb.mono HB2.out.size))
      clear hb
      go_wp2_with fail
      go_ret
      exact ⟨rfl, HB3.out⟩
end Go.Proofs.YtpnnchpaaopdcaaGreatDoor
namespace Go.Proofs.YtpnnchpaaopdcaaGreatDoor
open Go Go.RowKit
variable {W : World} {g : Nat} {s : RS} {S : List UInt8}
theorem own_pairsT {t : TypeId} {B : Nat} {v : Value} {l : List (Nat × Nat)} (h : W.ownsRow B t 2 v l.length (cellsP l)) : ∃ sp cap, v = .slice sp l.length cap ∧ PairsAt W sp l ∧ Up B sp := by
  rcases h.2 with ⟨h1, h2⟩ | ⟨b, cap, cur, h1, h2⟩
  · have hl : l = [] := List.length_eq_zero_iff.1 h2
    subst hl
    subst h1
    exact ⟨none, 0, rfl, fun i r hr => by simp at hr, fun a e => by simp at e⟩
  · subst h1
    refine ⟨_, cap, rfl, fun i r hr => ?_, fun a e => ?_⟩
    · have hil := (List.getElem?_eq_some_iff.1 hr).1
      have hc := cellsP_at hil
      have hr2 : l[i] = r := (List.getElem?_eq_some_iff.1 hr).2
      rw [hr2] at hc
      exact ⟨b, 0, rfl, (h.lt b rfl).2, by rw [Nat.zero_add, h.cellAt _ (by omega)]; exact hc.1, by rw [Nat.zero_add, h.cellAt _ (by omega)]; exact hc.2⟩
    · cases e; exact (h.lt b rfl).1
end Go.Proofs.YtpnnchpaaopdcaaGreatDoor
namespace Go.Proofs.YtpnnchpaaopdcaaGreatDoor
open Go Go.RowKit
set_option maxRecDepth 100000 in
set_option maxHeartbeats 2000000 in
theorem qhasP_c (ad : Option Addr) (cp : Nat) (l : List (Nat × Nat)) (hl : l.length ≤ 1000) (n last : Nat) (w : World) (ho : PairsAt w ad l) :
    Calls Tryz.prog 127 #[.slice ad l.length cp, .int .u32 n, .int .u32 last] w fun e w' => e = .returned (.bool (hasB l n last)) ∧ Below w.heap.size w w' := by
  by_cases hn0 : n = 0
  · subst hn0
    go_enter Tryz.func127, Tryz.ntmps127
    go_wp2_with fail
    go_ret
    exact ⟨by simp [hasB], Below.refl _ _⟩
  have en : ((n : Int) == 0) = false := qF (by omega)
  have HH : Hid (hasB l n last = l.any (inB n last)) := by show _ = _; simp [hasB, hn0]
  obtain ⟨N, hN⟩ : ∃ N, N = l.length := ⟨_, rfl⟩
  rw [← hN] at hl ⊢
  have HO := Lib.hid ho
  have HN := Lib.hid hN
  clear ho hN hn0
  go_enter Tryz.func127, Tryz.ntmps127
  go_wp2_with fail
  go_loopw [8, 9, 10, 15] (fun _ _ _ t15 wr => ∃ k : Nat, k ≤ N ∧ t15 = .int .i64 k ∧ Hid ((l.take k).any (inB n last) = false) ∧ Hid (Below w.heap.size w wr)) (fun _ _ _ i _ => N - (intOf i).toNat)
  case atStart => exact ⟨0, by omega, rfl, rfl, Below.refl _ _⟩
  case round =>
    obtain ⟨k, hk, rfl, HF, HB⟩ := hrel
    have hls := HB.out.size
    by_cases hlt : k < N
    · have hkl : k < l.length := by rw [← HN.out]; exact hlt
      obtain ⟨x, y, hxy⟩ : ∃ x y, l[k] = (x, y) := ⟨_, _, rfl⟩
      have hq1 : (k : Int) < N := by omega
      obtain ⟨g, off, rfl, hgl, k0', k1'⟩ := HO.out k (x, y) (by rw [List.getElem?_eq_getElem hkl, hxy])
      have k0 : wr.cell? ⟨g, off + k * 2, none⟩ = some (.int .u32 x) := (HB.out.cell (p := ⟨g, _, none⟩) hgl).trans k0'
      have k1 : wr.cell? ⟨g, off + k * 2 + 1, none⟩ = some (.int .u32 y) := (HB.out.cell (p := ⟨g, _, none⟩) hgl).trans k1'
      have hgw : g < wr.heap.size := by omega
      have hq0 : (0 : Int) ≤ k := by omega
      have HXY : Hid (l[k]? = some (x, y)) := by show _ = _; rw [List.getElem?_eq_getElem hkl, hxy]
      clear k0' k1' hxy hkl
      go_wp2_with fail
      refine (bounds_c x y last _).mono ?_
      rintro e w2 ⟨rfl, hb2⟩
      have HB2 : Hid (Below w.heap.size w w2) := (HB.out.alloc hls _).trans (hb2.mono (by simp; omega))
      clear hb2 k0 k1
      by_cases h1 : loB (x, y) last ≤ n
      · have q1 : ((loB (x, y) last : Nat) : Int) ≤ n := by omega
        by_cases h2 : n ≤ hiB (x, y) last
        · have q2 : (n : Int) ≤ ((hiB (x, y) last : Nat) : Int) := by omega
          have hin : l.any (inB n last) = true := any_at HXY.out (by simp [inB, h1, h2])
          have HI := Lib.hid hin
          clear hin h1 h2
          go_wp2_with fail
          go_ret
          exact ⟨by rw [HH.out, HI.out]; rfl, HB2.out⟩
        · have q2 : ¬ (n : Int) ≤ ((hiB (x, y) last : Nat) : Int) := by omega
          have hin : (l.take (k + 1)).any (inB n last) = false := by rw [take_any HXY.out, HF.out]; simp [inB, h2]
          have HI := Lib.hid hin
          clear hin h1 h2
          go_wp2_with fail
          go_roundw
          case rel => exact ⟨k + 1, by omega, by go_num, HI.out, HB2.out⟩
          case measure => simp [intOf]; omega
      · have q1 : ¬ ((loB (x, y) last : Nat) : Int) ≤ n := by omega
        have hin : (l.take (k + 1)).any (inB n last) = false := by rw [take_any HXY.out, HF.out]; simp [inB, h1]
        have HI := Lib.hid hin
        clear hin h1
        go_wp2_with fail
        go_roundw
        case rel => exact ⟨k + 1, by omega, by go_num, HI.out, HB2.out⟩
        case measure => simp [intOf]; omega
    · obtain rfl : k = N := by omega
      go_wp2_with fail
      go_ret
      refine ⟨?_, HB.out⟩
      have h1 := HF.out
      rw [List.take_of_length_le (by rw [← HN.out]; exact Nat.le_refl _)] at h1
      rw [HH.out, h1]; rfl
structure MP where
  uid : Nat
  fl : Nat
  tx : List UInt8
  sq : Nat
  lastS : Nat
  lastU : Nat
def MP.recv (m : MP) : Value := .agg #[.int .u32 m.uid, .int .u8 m.fl, .string (txt m.tx)]
def MP.plc (m : MP) : Value := .agg #[.int .u32 m.sq, .int .u32 m.lastS, .int .u32 m.lastU]
structure MP.Ok (m : MP) : Prop where
  fl : m.fl < 256
  tx : m.tx.length ≤ 70000
def MaxL (W : World) : Prop := ∃ z, W.cell? ⟨5, 0, none⟩ = some (.int .i64 z)
theorem MaxL.below {W W' : World} (h : MaxL W) (hb : Below W.heap.size W W') : MaxL W' := by
  obtain ⟨z, hz⟩ := h
  exact ⟨z, (hb.cell (p := ⟨5, 0, none⟩) (World.block_lt_of_cell? W _ hz)).trans hz⟩
mutual
def matchK (m : MP) : KT → Bool
  | .mk kind flag set n s kids _ _ _ _ =>
    if kind = 1 then sHas m.fl flag else if kind = 2 then !sHas m.fl flag else if kind = 3 then hasB set m.sq m.lastS else if kind = 4 then hasB set m.uid m.lastU
    else if kind = 5 then decide (n < m.tx.length) else if kind = 6 then decide (m.tx.length < n) else if kind = 7 then Lib.contains (m.tx.map upB) (s.map upB)
    else if kind = 8 then !matchHd m kids else if kind = 9 then matchAny m kids else if kind = 10 then !matchNot m kids else true
def matchHd (m : MP) : List KT → Bool
  | [] => true
  | k :: _ => matchK m k
def matchAny (m : MP) : List KT → Bool
  | [] => false
  | k :: r => matchK m k || matchAny m r
def matchNot (m : MP) : List KT → Bool
  | [] => false
  | k :: r => !matchK m k || matchNot m r
end
theorem matchAny_any (m : MP) : ∀ l, matchAny m l = l.any (matchK m)
  | [] => by rw [matchAny]; rfl
  | k :: r => by rw [matchAny, matchAny_any m r, List.any_cons]
theorem matchNot_any (m : MP) : ∀ l, matchNot m l = l.any (fun x => !matchK m x)
  | [] => by rw [matchNot]; rfl
  | k :: r => by rw [matchNot, matchNot_any m r, List.any_cons]
def MatchIH (m : MP) (k : KT) : Prop := ∀ W, KeyC W k → MaxL W → Calls Tryz.prog 70 #[k.val, m.recv, m.plc] W fun e w' => e = .returned (.bool (matchK m k)) ∧ Below W.heap.size W w'
structure Bx2 (W : World) (P1 P2 : Nat) (m : MP) : Prop where
  r : W.heap[P1]? = some (.cells #[.int .u32 m.uid, .int .u8 m.fl, .string (txt m.tx)] 50 (0, 0))
  p : W.heap[P2]? = some (.cells #[.int .u32 m.sq, .int .u32 m.lastS, .int .u32 m.lastU] 43 (0, 0))
theorem Bx2.below {W W' : World} {P1 P2 : Nat} {m : MP} (h : Bx2 W P1 P2 m) (hb : Below W.heap.size W W') : Bx2 W' P1 P2 m :=
  ⟨(hb.block _ (Array.getElem?_eq_some_iff.1 h.r).1).trans h.r, (hb.block _ (Array.getElem?_eq_some_iff.1 h.p).1).trans h.p⟩
theorem Bx2.cells {W : World} {P1 P2 : Nat} {m : MP} (h : Bx2 W P1 P2 m) : (W.cell? ⟨P1, 0, none⟩ = some (.int .u32 m.uid) ∧ W.cell? ⟨P1, 1, none⟩ = some (.int .u8 m.fl) ∧ W.cell? ⟨P1, 2, none⟩ = some (.string (txt m.tx))) ∧
    (W.cell? ⟨P2, 0, none⟩ = some (.int .u32 m.sq) ∧ W.cell? ⟨P2, 1, none⟩ = some (.int .u32 m.lastS) ∧ W.cell? ⟨P2, 2, none⟩ = some (.int .u32 m.lastU)) ∧ P1 < W.heap.size ∧ P2 < W.heap.size := by
  have h1 := h.r
  have h2 := h.p
  refine ⟨⟨?_, ?_, ?_⟩, ⟨?_, ?_, ?_⟩, (Array.getElem?_eq_some_iff.1 h1).1, (Array.getElem?_eq_some_iff.1 h2).1⟩
  all_goals (unfold World.cell?; first | (rw [h1]; rfl) | (rw [h2]; rfl))
set_option maxRecDepth 100000 in
theorem sMatches1_c {m : MP} (x : KT) (ih : MatchIH m x) (P1 P2 : Nat) (W : World) (hx : KeyC W x) (hX : MaxL W) (hb : Bx2 W P1 P2 m) :
    Calls Tryz.prog 124 #[x.val, .pointer (some ⟨P1, 0, none⟩), .pointer (some ⟨P2, 0, none⟩)] W fun e w' => e = .returned (.bool (matchK m x)) ∧ Below W.heap.size W w' := by
  obtain ⟨yk, yf, ym, yn, yl, ysp, ykp, ysc, ykc, Y, hyv, hyc⟩ := x.form
  have hB : Below W.heap.size W (W.alloc (.cells #[.int .i64 yk, .int .u8 yf, .slice ysp ym ysc, .int .u32 yn, .string Y, .slice ykp yl ykc] 37)) := (Below.refl _ _).alloc (Nat.le_refl _) _
  have C := ih _ (hx.below hB) (hX.below hB)
  rw [hyv] at C ⊢
  obtain ⟨⟨r0, r1, r2⟩, ⟨p0, p1, p2⟩, hl1, hl2⟩ := (hb.below hB).cells
  obtain ⟨b, hbv⟩ : ∃ b, matchK m x = b := ⟨_, rfl⟩
  rw [hbv] at C ⊢
  unfold MP.recv MP.plc at C
  have C := Lib.hid C
  have HB := Lib.hid hB
  have hl1' := (hb.cells).2.2.1
  have hl2' := (hb.cells).2.2.2
  clear ih hx hX hyv hyc hbv hB hb
  go_enter Tryz.func124, Tryz.ntmps124
  go_wp2_with fail
  refine C.out.mono ?_
  rintro e w2 ⟨rfl, hb2⟩
  have HB2 := Lib.hid (HB.out.trans (hb2.mono (by simp)))
  clear hb2
  go_wp2_with fail
  go_ret
  exact ⟨rfl, HB2.out⟩
set_option maxRecDepth 100000 in
theorem sMatches2_c {m : MP} (x : KT) (ih : MatchIH m x) (P P1 P2 : Nat) (W : World) (hx : KeyC W x) (hX : MaxL W) (hb : Bx2 W P1 P2 m) (hP : Boxed W P 46 (.func (.func 124) #[] #[.pointer (some ⟨P1, 0, none⟩), .pointer (some ⟨P2, 0, none⟩)])) :
    Calls Tryz.prog 125 #[x.val, .pointer (some ⟨P, 0, none⟩)] W fun e w' => e = .returned (.bool (!matchK m x)) ∧ Below W.heap.size W w' := by
  obtain ⟨yk, yf, ym, yn, yl, ysp, ykp, ysc, ykc, Y, hyv, hyc⟩ := x.form
  have hB : Below W.heap.size W (W.alloc (.cells #[.int .i64 yk, .int .u8 yf, .slice ysp ym ysc, .int .u32 yn, .string Y, .slice ykp yl ykc] 37)) := (Below.refl _ _).alloc (Nat.le_refl _) _
  have C := sMatches1_c x ih P1 P2 _ (hx.below hB) (hX.below hB) (hb.below hB)
  rw [hyv] at C ⊢
  have hc := (show Boxed (W.alloc (.cells #[.int .i64 yk, .int .u8 yf, .slice ysp ym ysc, .int .u32 yn, .string Y, .slice ykp yl ykc] 37)) P 46 _ from (hB.block _ (lt_of_block hP)).trans hP).cell
  have hl := lt_of_block hP
  obtain ⟨b, hbv⟩ : ∃ b, matchK m x = b := ⟨_, rfl⟩
  rw [hbv] at C ⊢
  have C := Lib.hid C
  have HB := Lib.hid hB
  clear ih hx hX hyv hyc hbv hB hb hP
  cases b
  all_goals
    go_enter Tryz.func125, Tryz.ntmps125
    go_wp2_with fail
    refine C.out.mono ?_
    rintro e w2 ⟨rfl, hb2⟩
    have HB2 := Lib.hid (HB.out.trans (hb2.mono (by simp)))
    clear hb2
    go_wp2_with fail
    go_ret
    exact ⟨rfl, HB2.out⟩
theorem match_boxes (W : World) (m : MP) (c0 c1 c2 c3 c4 c5 : Value) : ∃ w0, (((W.alloc (.cells #[c0, c1, c2, c3, c4, c5] 37)).alloc (.cells #[.int .u32 m.uid, .int .u8 m.fl, .string (txt m.tx)] 50)).alloc (.cells #[.int .u32 m.sq, .int .u32 m.lastS, .int .u32 m.lastU] 43)).alloc
      (.cells #[.func (.func 124) #[] #[.pointer (some ⟨W.heap.size + 1, 0, none⟩), .pointer (some ⟨W.heap.size + 1 + 1, 0, none⟩)]] 46) = w0 ∧ Below W.heap.size W w0 ∧ w0.heap.size = W.heap.size + 4 ∧ Bx2 w0 (W.heap.size + 1) (W.heap.size + 1 + 1) m ∧
    Boxed w0 (W.heap.size + 1 + 1 + 1) 46 (.func (.func 124) #[] #[.pointer (some ⟨W.heap.size + 1, 0, none⟩), .pointer (some ⟨W.heap.size + 1 + 1, 0, none⟩)]) ∧ w0.heap[W.heap.size]? = some (.cells #[c0, c1, c2, c3, c4, c5] 37 (0, 0)) := by
  refine ⟨_, rfl, ?_, by simp, ⟨?_, ?_⟩, ?_, ?_⟩
  · exact ((((Below.refl _ W).alloc (Nat.le_refl _) _).alloc (by simp) _).alloc (by simp; omega) _).alloc (by simp; omega) _
  · have h := heap_alloc_new (W.alloc (.cells #[c0, c1, c2, c3, c4, c5] 37)) (.cells #[.int .u32 m.uid, .int .u8 m.fl, .string (txt m.tx)] 50)
    rw [World.size_alloc] at h
    rw [Below.heap_alloc _ _ _ (by simp), Below.heap_alloc _ _ _ (by simp)]
    exact h
  · have h := heap_alloc_new ((W.alloc (.cells #[c0, c1, c2, c3, c4, c5] 37)).alloc (.cells #[.int .u32 m.uid, .int .u8 m.fl, .string (txt m.tx)] 50)) (.cells #[.int .u32 m.sq, .int .u32 m.lastS, .int .u32 m.lastU] 43)
    rw [World.size_alloc, World.size_alloc] at h
    rw [Below.heap_alloc _ _ _ (by simp)]
    exact h
  · have h := heap_alloc_new (((W.alloc (.cells #[c0, c1, c2, c3, c4, c5] 37)).alloc (.cells #[.int .u32 m.uid, .int .u8 m.fl, .string (txt m.tx)] 50)).alloc (.cells #[.int .u32 m.sq, .int .u32 m.lastS, .int .u32 m.lastU] 43)) (.cells #[.func (.func 124) #[] #[.pointer (some ⟨W.heap.size + 1, 0, none⟩), .pointer (some ⟨W.heap.size + 1 + 1, 0, none⟩)]] 46)
    rw [World.size_alloc, World.size_alloc, World.size_alloc] at h
    exact h
  · have h := heap_alloc_new W (.cells #[c0, c1, c2, c3, c4, c5] 37)
    rw [Below.heap_alloc _ _ _ (by simp; omega), Below.heap_alloc _ _ _ (by simp; omega), Below.heap_alloc _ _ _ (by simp)]
    exact h
end Go.Proofs.YtpnnchpaaopdcaaGreatDoor

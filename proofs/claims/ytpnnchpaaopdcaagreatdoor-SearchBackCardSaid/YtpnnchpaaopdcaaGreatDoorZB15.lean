/-
  strings.Replacer: made of four texts; built, once: contracts.
  The bytes' replacer: a text with each of two bytes escaped; how many there are: lists, the counting.
  A quoted text is read as it was: lists alone.
  A literal is read as it was: lists alone.
-/
import Derived.Test.YtpnnchpaaopdcaaGreatDoorZB04
import Derived.Test.YtpnnchpaaopdcaaGreatDoorZB14
import Derived.Test.YtpnnchpaaopdcaaGreatDoorZB01
import Derived.Deep.QuietTactic
import Derived.BigQuiet
import Derived.Test.YtpnnchpaaopdcaaGreatDoorZB06
import Derived.Lib.ItoaNum
set_option linter.unusedVariables false
set_option linter.unusedSimpArgs false
namespace Go.Proofs.YtpnnchpaaopdcaaGreatDoor
open Go Go.RowKit
variable {W : World} {g q cp : Nat}
theorem own_lower {w : World} {B B' e size n : Nat} {v : Value} {xs : List Value} (h : w.ownsRow B e size v n xs) (hB : B' ≤ B) : w.ownsRow B' e size v n xs := by
  refine ⟨h.1, ?_⟩
  rcases h.2 with hn | ⟨g, cap, cur, rfl, hg, rest⟩
  · exact .inl hn
  · exact .inr ⟨g, cap, cur, rfl, by omega, rest⟩
theorem BsDone.tk {w w' : World} {rb : Nat} (h : BsDone (g + 1) rb w) (hk : Tk g w w') : BsDone (g + 1) rb w' := by
  obtain ⟨hr, tr, b1, c1, b2, c2, ⟨hc, ho⟩, h1, h2, hb1, hb2⟩ := h
  refine ⟨hr, tr, b1, c1, b2, c2, ⟨hc.later (hk.blk rb hc.lt (by omega)), own_keep ho fun k hk' => ?_⟩, bytes_keep h1 (hk.blk b1 h1.lt (by omega)), bytes_keep h2 (hk.blk b2 h2.lt (by omega)), hb1, hb2⟩
  have := ho.lt k hk'
  exact hk.blk k this.2 (by omega)
theorem BsDone.lower {w : World} {B B' rb : Nat} (h : BsDone B rb w) (hB : B' ≤ B) : BsDone B' rb w := by
  obtain ⟨hr, tr, b1, c1, b2, c2, ⟨hc, ho⟩, h1, h2, hb1, hb2⟩ := h
  exact ⟨by omega, tr, b1, c1, b2, c2, ⟨hc, own_lower ho hB⟩, h1, h2, by omega, by omega⟩
def RepE (g : Nat) (r : Value) (w : World) : Prop := ∃ rb, r = .iface 282 (pt0 rb) ∧ BsDone (g + 1) rb w
set_option maxRecDepth 100000 in
set_option maxHeartbeats 1000000 in
theorem buildOnce_c (hr : RepAt W g 0 1 .nilIface (.slice (some ⟨q, 0, none⟩) 4 cp)) (ho : OldAt W q) : Calls Tryz.prog 191 #[pt0 g] W (OnceP g W (RepE g) 0 1) := by
  have C := Lib.hid (repBuild_c hr ho)
  have HR := Lib.hid hr
  have hlt := hr.facts.2.2.2.2.1
  clear hr ho
  go_enter Tryz.func191, Tryz.ntmps191
  go_wp2_with fail
  refine C.out.mono ?_
  rintro e w1 ⟨rb, rfl, hd, hb⟩
  have h1 : RepAt w1 g 0 1 .nilIface (.slice (some ⟨q, 0, none⟩) 4 cp) := Cells.later HR.out (hb.block g hlt)
  obtain ⟨c0, c1, c3, c4, hb1, hf⟩ := h1.facts
  have f3 := hf 3
  have f4 := hf 4
  have h2 := (h1.set3 (.iface 282 (pt0 rb))).set4 (.slice none 0 0)
  have k2 : Tk g w1 ((w1.setCell ⟨g, 3, none⟩ (.iface 282 (pt0 rb))).setCell ⟨g, 4, none⟩ (.slice none 0 0)) := (Tk.set _ _ _).trans (Tk.set _ _ _)
  have HF : Hid (OnceP g W (RepE g) 0 1 (.returned (.tuple #[])) ((w1.setCell ⟨g, 3, none⟩ (.iface 282 (pt0 rb))).setCell ⟨g, 4, none⟩ (.slice none 0 0))) :=
    ⟨rfl, _, h2, ⟨rb, rfl, (hd.lower (by omega)).tk k2⟩, (Tk.of_below hb).trans k2⟩
  clear h1 h2 k2 hd hb c0 c1 hf
  go_wp2_with fail
  go_end0
  exact HF.out
theorem repNew_c {p c : Nat} (h : OldAt W p) : Calls Tryz.prog 149 #[.slice (some ⟨p, 0, none⟩) 4 c] W fun e w' => ∃ g q cp, e = .returned (pt0 g) ∧ RepAt w' g 0 0 .nilIface (.slice (some ⟨q, 0, none⟩) 4 cp) ∧ OldAt w' q ∧ q ≠ g ∧ W.heap.size ≤ g ∧ W.heap.size ≤ q ∧ Below W.heap.size W w' := by
  obtain ⟨iS, hiS, hS0, hS1, hS2⟩ := info_parts Tryz.infoStr
  have hcs : ∀ j u, ([.string sO1, .string sN1, .string sO2, .string sN2] : List Value)[j]? = some u → W.cell? ((⟨p, 0, none⟩ : Addr).add j) = some u := by
    intro j u hj
    rw [Addr.add_lit, Nat.zero_add]
    match j, hj with
    | 0, hj => cases hj; exact h.c0
    | 1, hj => cases hj; exact h.c1
    | 2, hj => cases hj; exact h.c2
    | 3, hj => cases hj; exact h.c3
    | j + 4, hj => simp at hj
  have HCS := Lib.hid hcs
  clear hcs h
  go_enter Tryz.func149, Tryz.ntmps149
  go_wp2_with (at_builtin; refine wpList_append_own _ rfl (.const (.slice none 0 0)) (.tmp 8) 92 rfl W.heap.size 9 iS (.string ⟨#[]⟩) 1 16 Tryz.underlying92 hiS hS0 hS1 hS2 rfl (by decide) _ _ _ rfl (World.ownsRow_nil _ _ _ _) ⟨p, 0, none⟩ 4 c [.string sO1, .string sN1, .string sO2, .string sN2] rfl rfl HCS.out (fun x hx => by simp at hx; rcases hx with rfl | rfl | rfl | rfl <;> rfl) (by unfold maxLen; simp) (by simp) (by simp) ?_)
  intro v' w1 hown hgrow _
  have hb : Below W.heap.size W w1 := Below.grown (Below.refl _ W) hgrow (Nat.le_refl _) (fun j hj => by cases hj)
  have hown2 := hown
  rcases hown.2 with ⟨_, h0⟩ | ⟨q, cap, cur, rfl, hg, hgg, h4, hm, hcs, htk⟩
  · cases h0
  have hq : OldAt (w1.alloc (.cells #[.int .u32 0, .int .i32 0, .int .u32 0, .nilIface, .slice (some ⟨q, 0, none⟩) 4 cap] 215)) q := by
    have ho := (hown2.alloc (.cells #[.int .u32 0, .int .i32 0, .int .u32 0, .nilIface, .slice (some ⟨q, 0, none⟩) 4 cap] 215))
    have hc := ho.cells (g := q) rfl
    have e : ∀ o, (⟨q, 0, none⟩ : Addr).add o = ⟨q, o, none⟩ := fun o => by rw [Addr.add_lit, Nat.zero_add]
    exact ⟨by rw [← e]; exact hc 0 _ rfl, by rw [← e]; exact hc 1 _ rfl, by rw [← e]; exact hc 2 _ rfl, by rw [← e]; exact hc 3 _ rfl, (ho.lt q rfl).2⟩
  have hqlt : q < w1.heap.size := (hown2.lt q rfl).2
  have HF : Hid (∃ g q' cp', (pt0 w1.heap.size) = pt0 g ∧ RepAt (w1.alloc (.cells #[.int .u32 0, .int .i32 0, .int .u32 0, .nilIface, .slice (some ⟨q, 0, none⟩) 4 cap] 215)) g 0 0 .nilIface (.slice (some ⟨q', 0, none⟩) 4 cp') ∧
      OldAt (w1.alloc (.cells #[.int .u32 0, .int .i32 0, .int .u32 0, .nilIface, .slice (some ⟨q, 0, none⟩) 4 cap] 215)) q' ∧ q' ≠ g ∧ W.heap.size ≤ g ∧ W.heap.size ≤ q' ∧ Below W.heap.size W (w1.alloc (.cells #[.int .u32 0, .int .i32 0, .int .u32 0, .nilIface, .slice (some ⟨q, 0, none⟩) 4 cap] 215))) :=
    ⟨w1.heap.size, q, cap, rfl, heap_alloc_new w1 _, hq, by omega, hb.size, hg, hb.alloc hb.size _⟩
  clear hown hown2 hgrow hgg htk hcs hq hb
  go_wp2_with fail
  go_ret
  obtain ⟨g, q', cp', e1, rest⟩ := HF.out
  exact ⟨g, q', cp', by rw [← e1]; rfl, rest⟩
end Go.Proofs.YtpnnchpaaopdcaaGreatDoor
namespace Go.Proofs.YtpnnchpaaopdcaaGreatDoor
open Go Go.RowKit
def isE (c : UInt8) : Bool := c == 92 || c == 34
def escB (c : UInt8) : List UInt8 := if isE c then [92, c] else [c]
def escL (l : List UInt8) : List UInt8 := l.flatMap escB
theorem escL_snoc (l : List UInt8) (c : UInt8) : escL (l ++ [c]) = escL l ++ escB c := by simp [escL]
theorem escB_len (c : UInt8) : (escB c).length = 1 + (if isE c then 1 else 0) := by unfold escB; split <;> rfl
theorem escL_len (l : List UInt8) : (escL l).length = l.length + l.countP isE := by
  induction l with
  | nil => rfl
  | cons a t ih =>
    have : escL (a :: t) = escB a ++ escL t := by simp [escL]
    rw [this, List.length_append, ih, escB_len, List.countP_cons, List.length_cons]
    omega
theorem escL_same {l : List UInt8} (h : l.countP isE = 0) : escL l = l := by
  induction l with
  | nil => rfl
  | cons a t ih =>
    rw [List.countP_cons] at h
    have ha : isE a = false := by
      cases hE : isE a with
      | false => rfl
      | true => rw [hE] at h; simp at h
    have : escL (a :: t) = escB a ++ escL t := by simp [escL]
    rw [this, ih (by omega)]
    simp [escB, ha]
theorem count_two (l : List UInt8) : l.countP isE = Lib.countByte l 34 + Lib.countByte l 92 := by
  unfold Lib.countByte
  induction l with
  | nil => rfl
  | cons a t ih =>
    rw [List.countP_cons, List.count_cons, List.count_cons, ih]
    by_cases h1 : a = 34
    · subst h1; simp [isE]; omega
    · by_cases h2 : a = 92
      · subst h2; simp [isE]; omega
      · simp [isE, h1, h2]
structure BsView (W : World) (rb b1 b2 : Nat) : Prop where
  k34 : ∃ c, W.cell? ⟨rb, 34, none⟩ = some (.slice (some ⟨b1, 0, none⟩) 2 c)
  k92 : ∃ c, W.cell? ⟨rb, 92, none⟩ = some (.slice (some ⟨b2, 0, none⟩) 2 c)
  no : ∀ i, i < 256 → i ≠ 34 → i ≠ 92 → W.cell? ⟨rb, i, none⟩ = some (.slice none 0 0)
  t1 : BytesAt W b1 [92, 34]
  t2 : BytesAt W b2 [92, 92]
  lt : rb < W.heap.size
theorem BsDone.view {B rb : Nat} {W : World} (h : BsDone B rb W) : ∃ b1 b2 t tc, BsView W rb b1 b2 ∧ W.cell? ⟨rb, 256, none⟩ = some (.slice (some ⟨t, 0, none⟩) 2 tc) ∧ W.cell? ⟨t, 0, none⟩ = some (.string sO2) ∧ W.cell? ⟨t, 1, none⟩ = some (.string sO1) ∧ t < W.heap.size := by
  obtain ⟨hr, tr, b1, c1, b2, c2, ⟨hc, ho⟩, h1, h2, hb1, hb2⟩ := h
  rcases ho.2 with ⟨_, h0⟩ | ⟨t, cap, cur, rfl, hg, hgg, rest⟩
  · cases h0
  have hcs := ho.cells (g := t) rfl
  have e : ∀ o, (⟨t, 0, none⟩ : Addr).add o = ⟨t, o, none⟩ := fun o => by rw [Addr.add_lit, Nat.zero_add]
  refine ⟨b1, b2, t, cap, ⟨⟨c1, hc.cell (rplA_at _ _ (by decide))⟩, ⟨c2, hc.cell (rplA_at _ _ (by decide))⟩, fun i hi h34 h92 => ?_, h1, h2, hc.lt⟩, hc.cell (rplA_end _ _), by rw [← e]; exact hcs 0 _ rfl, by rw [← e]; exact hcs 1 _ rfl, (ho.lt t rfl).2⟩
  have := hc.cell (rplA_at (putF (putF rp0 34 (.slice (some ⟨b1, 0, none⟩) 2 c1)) 92 (.slice (some ⟨b2, 0, none⟩) 2 c2)) (.slice (some ⟨t, 0, none⟩) 2 cap) hi)
  rw [this]
  unfold putF
  rw [if_neg h92, if_neg h34]; rfl
theorem qd_esc (l r : List UInt8) (h : ∀ c ∈ l, c ≠ 13 ∧ c ≠ 10) : qd (escL l ++ 34 :: r) = some (l, r) := by
  induction l with
  | nil =>
    show qd (34 :: r) = _
    rw [qd.eq_def]
    simp
  | cons a t ih =>
    have e : escL (a :: t) = escB a ++ escL t := by simp [escL]
    have hi := ih (fun c hc => h c (List.mem_cons_of_mem _ hc))
    obtain ⟨h13, h10⟩ := h a (List.mem_cons_self ..)
    rw [e, List.append_assoc]
    by_cases h1 : a = 34
    · subst h1
      have : escB 34 = [92, 34] := by decide
      rw [this]
      simp [qd, hi]
    · by_cases h2 : a = 92
      · subst h2
        have : escB 92 = [92, 92] := by decide
        rw [this]
        simp [qd, hi]
      · have : escB a = [a] := by simp [escB, isE, h1, h2]
        rw [this]
        show qd (a :: (escL t ++ 34 :: r)) = _
        rw [qd.eq_def]
        simp [h1, h2, h13, h10, hi]
theorem strV_esc (l r : List UInt8) (f : Bool) (h : ∀ c ∈ l, c ≠ 13 ∧ c ≠ 10) : strV ⟨34 :: (escL l ++ 34 :: r), f⟩ = l ∧ strS ⟨34 :: (escL l ++ 34 :: r), f⟩ = ⟨r, f⟩ := by
  unfold strV strS
  simp [qd_esc l r h]
theorem isAtomB_true {l : List UInt8} (h : isAtomB l = true) : l ≠ [] ∧ ∀ c ∈ l, atomB c = true := by
  unfold isAtomB atomS at h
  dsimp only at h
  split at h
  · simp [RS.gone] at h
  · rename_i hz
    refine ⟨fun e => by rw [e] at hz; simp at hz, fun c hc => ?_⟩
    have hd : l.dropWhile atomB = [] := by simpa using h
    have := List.takeWhile_append_dropWhile (p := atomB) (l := l)
    rw [hd, List.append_nil] at this
    rw [← this] at hc
    exact List.all_eq_true.1 List.all_takeWhile c hc
theorem atom_not {c : UInt8} (h : atomB c = true) : c ≠ 34 ∧ c ≠ 123 := by
  refine ⟨fun e => ?_, fun e => ?_⟩ <;> (subst e; revert h; decide)
theorem strV_atom (l r : List UInt8) (f : Bool) (h : isAtomB l = true) (hr : ∀ c, r.head? = some c → atomB c = false) : strV ⟨l ++ r, f⟩ = l ∧ strS ⟨l ++ r, f⟩ = ⟨r, f⟩ := by
  obtain ⟨h0, h1⟩ := isAtomB_true h
  have ht : (l ++ r).takeWhile atomB = l := by
    rw [List.takeWhile_append_of_pos h1]
    cases r with
    | nil => simp
    | cons a t => simp [hr a rfl]
  have hd : (l ++ r).dropWhile atomB = r := by
    rw [List.dropWhile_append_of_pos h1]
    cases r with
    | nil => simp
    | cons a t => simp [hr a rfl]
  cases l with
  | nil => exact absurd rfl h0
  | cons a t =>
    obtain ⟨n1, n2⟩ := atom_not (h1 a (List.mem_cons_self ..))
    unfold strV strS atomV atomS
    rw [ht, hd]
    simp [n1, n2]
theorem dec_small9 {u : Nat} (h : u < 10) : Lib.decDigits u = [UInt8.ofNat (48 + u)] := by rw [Lib.decDigits, dif_pos h]
theorem dec_big9 {u : Nat} (h : ¬ u < 10) : Lib.decDigits u = Lib.decDigits (u / 10) ++ [UInt8.ofNat (48 + u % 10)] := by rw [Lib.decDigits, dif_neg h]
theorem dec_len9 : ∀ (k u : Nat), u < 10 ^ (k + 1) → (Lib.decDigits u).length ≤ k + 1
  | 0, u, h => by rw [dec_small9 (by simpa using h)]; simp
  | k + 1, u, h => by
    by_cases hu : u < 10
    · rw [dec_small9 hu]; simp
    · rw [dec_big9 hu, List.length_append]
      have := dec_len9 k (u / 10) (by rw [Nat.pow_succ] at h; omega)
      simp; omega
theorem numV_snoc9 : ∀ (l : List UInt8) (a u : Nat) (c : UInt8), numV a l = some u → dig c → numV a (l ++ [c]) = some (10 * u + (c.toNat - 48))
  | [], a, u, c, h, hc => by have : a = u := Option.some.inj h; subst this; simp [numV, hc]
  | x :: r, a, u, c, h, hc => by
    unfold numV at h
    split at h
    · rename_i hx
      show (if dig x then numV _ (r ++ [c]) else none) = _
      rw [if_pos hx]
      exact numV_snoc9 r _ u c h hc
    · cases h
theorem dig_of9 {d : Nat} (h : d < 10) : dig (UInt8.ofNat (48 + d)) ∧ (UInt8.ofNat (48 + d)).toNat - 48 = d := by
  have e : (UInt8.ofNat (48 + d)).toNat = 48 + d := by simp; omega
  unfold dig; rw [e]; omega
theorem dec_spell9 (n : Nat) : numV 0 (Lib.decDigits n) = some n ∧ (∀ c ∈ Lib.decDigits n, dig c) ∧ Lib.decDigits n ≠ [] ∧ (0 < n → (Lib.decDigits n).head? ≠ some 48) := by
  induction n using Nat.strongRecOn with
  | _ n ih =>
    by_cases h : n < 10
    · rw [dec_small9 h]
      obtain ⟨d1, d2⟩ := dig_of9 h
      refine ⟨?_, fun c hc => by rw [List.mem_singleton.1 hc]; exact d1, by simp, fun h0 e => ?_⟩
      · show (if dig _ then numV _ [] else none) = _
        rw [if_pos d1, d2]; simp [numV]
      · have e2 : UInt8.ofNat (48 + n) = 48 := by simpa using e
        have e3 : (UInt8.ofNat (48 + n)).toNat = 48 := by rw [e2]; rfl
        have e4 : (UInt8.ofNat (48 + n)).toNat = 48 + n := by simp; omega
        omega
    · obtain ⟨i1, i2, i3, i4⟩ := ih (n / 10) (by omega)
      rw [dec_big9 h]
      obtain ⟨d1, d2⟩ := dig_of9 (d := n % 10) (by omega)
      refine ⟨?_, fun c hc => ?_, by simp, fun h0 => ?_⟩
      · rw [numV_snoc9 _ _ _ _ i1 d1, d2]; congr 1; omega
      · rcases List.mem_append.1 hc with hc | hc
        · exact i2 c hc
        · rw [List.mem_singleton.1 hc]; exact d1
      · have := i4 (by omega)
        cases hd : Lib.decDigits (n / 10) with
        | nil => exact absurd hd i3
        | cons a t => rw [hd] at this; simpa using this
theorem digB_of {c : UInt8} (h : dig c) : digB c = true := by unfold dig at h; unfold digB; simp [h.1, h.2]
theorem dec_zero {n : Nat} (h : 1 < (Lib.decDigits n).length) : 0 < n := by
  rcases Nat.eq_zero_or_pos n with e | e
  · subst e; rw [dec_small9 (by omega)] at h; simp at h
  · exact e
theorem numR_dec (n : Nat) (h : n ≤ 4294967295) : numR (Lib.decDigits n) 4294967295 = some n := by
  obtain ⟨h1, h2, h3, h4⟩ := dec_spell9 n
  have hl := dec_len9 9 n (by omega)
  have hp : 0 < (Lib.decDigits n).length := List.length_pos_iff.2 h3
  unfold numR
  rw [if_neg (fun h => by rcases h with a | a | ⟨a, c⟩ <;> first | omega | exact h4 (dec_zero a) c), h1]
  simp [h]
theorem must_at (w r : List UInt8) (hw : w ≠ []) : mustS ⟨w ++ r, false⟩ w = ⟨r, false⟩ := by
  unfold mustS wordB
  have : (decide (w.length ≤ (w ++ r).length)) = true := by simp
  simp
theorem strV_lit (l r : List UInt8) (h : l.length ≤ 65536) : strV ⟨123 :: (Lib.decDigits l.length ++ ([125, 13, 10] ++ (l ++ r))), false⟩ = l ∧ strS ⟨123 :: (Lib.decDigits l.length ++ ([125, 13, 10] ++ (l ++ r))), false⟩ = ⟨r, false⟩ := by
  obtain ⟨n, hn⟩ : ∃ n, l.length = n := ⟨_, rfl⟩
  obtain ⟨h1, h2, h3, h4⟩ := dec_spell9 n
  have hr := numR_dec n (by omega)
  have e1 : mustS ⟨123 :: (Lib.decDigits n ++ ([125, 13, 10] ++ (l ++ r))), false⟩ [123] = ⟨Lib.decDigits n ++ ([125, 13, 10] ++ (l ++ r)), false⟩ := must_at [123] _ (by simp)
  have ht : (Lib.decDigits n ++ ([125, 13, 10] ++ (l ++ r))).takeWhile digB = Lib.decDigits n := by
    rw [List.takeWhile_append_of_pos (fun c hc => digB_of (h2 c hc))]
    simp [digB]
  have hd : (Lib.decDigits n ++ ([125, 13, 10] ++ (l ++ r))).dropWhile digB = [125, 13, 10] ++ (l ++ r) := by
    rw [List.dropWhile_append_of_pos (fun c hc => digB_of (h2 c hc))]
    simp [digB]
  have eN : litN ⟨123 :: (Lib.decDigits n ++ ([125, 13, 10] ++ (l ++ r))), false⟩ = n := by
    unfold litN numN numO
    rw [e1, ht, hr]; rfl
  have eH : litH ⟨123 :: (Lib.decDigits n ++ ([125, 13, 10] ++ (l ++ r))), false⟩ = ⟨l ++ r, false⟩ := by
    unfold litH numS numO
    rw [e1, ht, hr, hd]
    exact must_at [125, 13, 10] _ (by simp)
  have eB : litB ⟨123 :: (Lib.decDigits n ++ ([125, 13, 10] ++ (l ++ r))), false⟩ = true := by
    unfold litB
    rw [eN, eH]
    simp; omega
  rw [hn]
  unfold strV strS litV litS
  rw [eB, eN, eH]
  simp [← hn]
end Go.Proofs.YtpnnchpaaopdcaaGreatDoor

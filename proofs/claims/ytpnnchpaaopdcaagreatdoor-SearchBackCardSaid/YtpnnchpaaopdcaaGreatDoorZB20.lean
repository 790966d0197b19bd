/-
  The law's Back of a key: what stands in its loops. MADE by wip/tools/mkBk.py.
  The document's reading of a key: what stands while it reads.
  slices.Clone at ranges and at keys: contracts.
-/
import Derived.Test.YtpnnchpaaopdcaaGreatDoorZB04
import Derived.Test.YtpnnchpaaopdcaaGreatDoorZB19
import Derived.Test.YtpnnchpaaopdcaaGreatDoorZB08
import Derived.Test.YtpnnchpaaopdcaaGreatDoorZB11
import Derived.Deep.RegionLaw
import Derived.OwnWalk
set_option linter.unusedVariables false
set_option linter.unusedSimpArgs false
namespace Go.Proofs.YtpnnchpaaopdcaaGreatDoor
open Go Go.RowKit
variable {W : World}
theorem Tryz.infoRKey9 : (Tryz.prog.info? 26).map (fun i => (i.zero, i.size, i.bytes)) = some (some (.agg #[.int .i64 0, .int .u8 0, .slice none 0 0, .int .u32 0, .string ⟨#[]⟩, .slice none 0 0]), 6, 88) := by kernel_rfl
theorem Tryz.underlyingRKids9 : Tryz.prog.underlying 24 = some (.slice 26) := by kernel_rfl
mutual
def ShortN (N : Nat) : KT → Prop
  | .mk _ _ set _ _ kids _ _ _ _ => set.length ≤ N ∧ kids.length ≤ N ∧ ShortNL N kids
def ShortNL (N : Nat) : List KT → Prop
  | [] => True
  | k :: r => ShortN N k ∧ ShortNL N r
end
theorem ShortNL.mem {N : Nat} : ∀ {l : List KT}, ShortNL N l → ∀ k ∈ l, ShortN N k
  | [], h, k, hk => by simp at hk
  | x :: r, h, k, hk => by
    unfold ShortNL at h
    rcases List.mem_cons.1 hk with e | hk
    · rw [e]; exact h.1
    · exact ShortNL.mem h.2 k hk
structure BkA (W w0 : World) (kind : Int) (flag n M N : Nat) (X : ByteArray) (set : List (Nat × Nat)) (T : Nat) (sv v : Value) (wx : World) : Prop where
  hT : W.heap.size + 2 ≤ T
  ct : Cells wx T 26 #[.int .i64 kind, .int .u8 flag, sv, .int .u32 n, .string X, v]
  own : wx.ownsRow (W.heap.size + 2) 115 2 sv M (cellsP set)
  far : ∀ b, sv.ownBlock = some b → b ≠ T
  below : Below w0.heap.size w0 wx
structure BkI (W w0 : World) (kind : Int) (flag n M N : Nat) (X : ByteArray) (set : List (Nat × Nat)) (T : Nat) (sv : Value) (kids : List KT) (k : Nat) (kts : List KT) (v : Value) (wx : World) : Prop where
  a : BkA W w0 kind flag n M N X set T sv v wx
  len : kts.length = k
  own : wx.ownsRow (W.heap.size + 2) 26 6 v k (cellsK kts)
  keys : ∀ x ∈ kts, KeyC wx x
  up : ∀ x ∈ kts, KeyIn (W.heap.size + 2) x
  off : ∀ x ∈ kts, KeyQ (fun b => b ≠ T ∧ v.ownBlock ≠ some b) x
  bare : bareL kts = (kids.take k).map bareK
  vT : v.ownBlock ≠ some T
  vs : ∀ b, v.ownBlock = some b → sv.ownBlock ≠ some b
theorem kids_own4 {B R cap : Nat} {kts : List KT} (h : W.ownsRow B 26 6 (.slice (some ⟨R, 0, none⟩) kts.length cap) kts.length (cellsK kts)) (ha : ∀ k ∈ kts, KeyC W k) : KidsC W kts (some ⟨R, 0, none⟩) 0 := by
  refine kids_of kts _ 0 fun j k hj => ?_
  have hjl := (List.getElem?_eq_some_iff.1 hj).1
  refine ⟨R, 0, rfl, (h.lt R rfl).2, fun q u hq => ?_, ha k (List.mem_of_getElem? hj)⟩
  have hq6 : q < 6 := by have := (List.getElem?_eq_some_iff.1 hq).1; rw [cells_six] at this; exact this
  rw [show 0 + (0 + j) * 6 + q = j * 6 + q by omega, h.cellAt _ (by omega), cellsK_at kts j hj q hq6, hq]
theorem kids_own3 {B k : Nat} {v : Value} {kts : List KT} (h : W.ownsRow B 26 6 v k (cellsK kts)) (hl : kts.length = k) (ha : ∀ x ∈ kts, KeyC W x) : ∃ kp kcap, v = .slice kp kts.length kcap ∧ KidsC W kts kp 0 ∧ Up B kp := by
  subst hl
  rcases h.2 with ⟨h1, h2⟩ | ⟨b, cap, cur, h1, h2⟩
  · have hl : kts = [] := List.length_eq_zero_iff.1 h2
    subst hl
    subst h1
    exact ⟨none, 0, rfl, by unfold KidsC; trivial, fun a e => by simp at e⟩
  · subst h1
    exact ⟨_, cap, rfl, kids_own4 h ha, fun a e => by cases e; exact (h.lt b rfl).1⟩
theorem results_b14 (tmps : Array Value) (w : World) (B : Nat) (a b c d e f : Value) (h : Cells w B 26 #[a, b, c, d, e, f]) (h2 : tmps.getD 2 undef = .pointer (some ⟨B, 0, none⟩)) :
    (results Tryz.f29 tmps).run Tryz.prog w = .ok (.agg #[a, b, c, d, e, f]) w := by
  have c0 := h.cell (i := 0) rfl
  have c1 := h.cell (i := 1) rfl
  have c2 := h.cell (i := 2) rfl
  have c3 := h.cell (i := 3) rfl
  have c4 := h.cell (i := 4) rfl
  have c5 := h.cell (i := 5) rfl
  have h2' : tmps[2]?.getD undef = .pointer (some ⟨B, 0, none⟩) := by simpa using h2
  simp [results, Tryz.f29, go_sem, h2', c0, c1, c2, c3, c4, c5]
theorem BkI.step {w0 : World} {kind : Int} {flag n M N : Nat} {X : ByteArray} {set : List (Nat × Nat)} {T : Nat} {sv : Value} {kids : List KT} {k : Nat} {kts : List KT} {vad : Option Addr} {vcp : Nat} {wr w4 w6 : World} {k2 kd : KT} {g2 cap2 : Nat} {cs : Array Value}
    (hs : w0.heap.size = W.heap.size + 2) (hI : BkI W w0 kind flag n M N X set T sv kids k kts (.slice vad k vcp) wr) (hkd : kids[k]? = some kd) (hb4 : Below wr.heap.size wr w4) (hbk : bareK k2 = bareK kd) (hc2 : KeyC w4 k2) (hi2 : KeyIn wr.heap.size k2)
    (hcs : k2.cells.toArray.toList = cs.toList) (ho : w6.ownsRow (W.heap.size + 2) 26 6 (.slice (some ⟨g2, 0, none⟩) (k + 1) cap2) (k + 1) (cellsK kts ++ cs.toList)) (hg : (w4.alloc (.cells cs 26)).grownBy w6 (Value.slice vad k vcp).ownBlock)
    (hat : (Value.slice vad k vcp).ownBlock = some g2 ∨ g2 = w4.heap.size + 1) :
    BkI W w0 kind flag n M N X set T sv kids (k + 1) (kts ++ [k2]) (.slice (some ⟨g2, 0, none⟩) (k + 1) cap2) (w6.setCell ⟨T, 5, none⟩ (.slice (some ⟨g2, 0, none⟩) (k + 1) cap2)) := by
  have hcs : k2.cells = cs.toList := by simpa using hcs
  obtain ⟨w5, hw5⟩ : ∃ w5, w4.alloc (.cells cs 26) = w5 := ⟨_, rfl⟩
  have h45 : Below w4.heap.size w4 w5 := by rw [← hw5]; exact (Below.refl _ w4).alloc (Nat.le_refl _) _
  have z5 : w5.heap.size = w4.heap.size + 1 := by rw [← hw5]; simp
  rw [hw5] at hg
  have hT := hI.a.hT
  have hTl := hI.a.ct.lt
  have z4 := hb4.size
  have z6 := hg.size
  have hr5 : Below wr.heap.size wr w5 := hb4.trans (h45.mono z4)
  have hold : ∀ q, (Value.slice vad k vcp).ownBlock = some q → W.heap.size + 2 ≤ q ∧ q < wr.heap.size := fun q hq => hI.own.lt q hq
  have hnT : (Value.slice vad k vcp).ownBlock ≠ some T := hI.vT
  have hg2T : g2 ≠ T := by
    rcases hat with e | e
    · intro e2; rw [e2] at e; exact hnT e
    · omega
  have hg26 : g2 < w6.heap.size := (ho.lt g2 rfl).2
  have tk6 : Tk T w6 (w6.setCell ⟨T, 5, none⟩ (.slice (some ⟨g2, 0, none⟩) (k + 1) cap2)) := Tk.set w6 5 _
  have hks : KeepQ (fun b => b ≠ T ∧ (Value.slice vad k vcp).ownBlock ≠ some b) w5 (w6.setCell ⟨T, 5, none⟩ (.slice (some ⟨g2, 0, none⟩) (k + 1) cap2)) :=
    ⟨Nat.le_trans z6 tk6.size, fun b hb hlt => (tk6.blk b (by omega) hb.1).trans (grown_at9 hg hlt hb.2)⟩
  have hKc : ∀ x ∈ kts ++ [k2], KeyC w5 x := fun x hx => by
    rcases List.mem_append.1 hx with hx | hx
    · exact KeyC.below hr5 x (hI.keys x hx)
    · rw [List.mem_singleton.1 hx]; exact KeyC.below h45 k2 hc2
  have hKo : ∀ x ∈ kts ++ [k2], KeyQ (fun b => b ≠ T ∧ (Value.slice vad k vcp).ownBlock ≠ some b) x := fun x hx => by
    rcases List.mem_append.1 hx with hx | hx
    · exact hI.off x hx
    · rw [List.mem_singleton.1 hx]
      exact KeyQ.mono (fun b hb => ⟨by omega, fun e => by have := (hold b e).2; omega⟩) k2 (KeyQ.of_in k2 hi2)
  have hct : Cells (w6.setCell ⟨T, 5, none⟩ (.slice (some ⟨g2, 0, none⟩) (k + 1) cap2)) T 26 #[.int .i64 kind, .int .u8 flag, sv, .int .u32 n, .string X, .slice (some ⟨g2, 0, none⟩) (k + 1) cap2] :=
    Cells.set (Cells.later (Cells.later hI.a.ct (hr5.block T hTl)) (grown_at9 hg (by omega) hnT)) 5 _
  have hob : wr.heap.size ≤ w5.heap.size := hr5.size
  have hB : Below w0.heap.size w0 (w6.setCell ⟨T, 5, none⟩ (.slice (some ⟨g2, 0, none⟩) (k + 1) cap2)) := by
    have h1 : Below w0.heap.size w0 w5 := hI.a.below.trans (hr5.mono hI.a.below.size)
    have h2 : Below w0.heap.size w5 w6 := ⟨hg.os, hg.tape, hg.output, hg.size, fun b hb => grown_at9 hg (by have := h1.size; omega) (fun e => by have := (hold b e).1; omega)⟩
    exact (h1.trans h2).trans (tk6.below (by omega) (by have := (h1.trans h2).size; omega))
  exact {
    a := ⟨hT, hct, own_far (own_grown (own_below hI.a.own hr5) hg (fun q hq e => hI.vs q e hq)) tk6 hI.a.far, hI.a.far, hB⟩
    len := by rw [List.length_append, hI.len]; rfl
    own := own_far (by rw [cellsK_snoc, hcs]; exact ho) tk6 (fun b e => by have e2 : g2 = b := Option.some.inj e; omega)
    keys := fun x hx => KeyC.keepQ hks x (hKc x hx) (hKo x hx)
    up := fun x hx => by
      rcases List.mem_append.1 hx with hx | hx
      · exact hI.up x hx
      · rw [List.mem_singleton.1 hx]; exact KeyIn.mono (by have := hI.a.below.size; omega) k2 hi2
    off := fun x hx => by
      rcases hat with e | e
      · rw [e] at hKo; exact hKo x hx
      · have h1 := hKo x hx
        have h2 := KeyC.lt x (hKc x hx)
        have h3 := KeyQ.and (KeyQ.mono (fun b hb => hb.1) x h1) h2
        exact KeyQ.mono (fun b hb => ⟨hb.1, fun e2 => by have e3 : g2 = b := Option.some.inj e2; have := hb.2; omega⟩) x h3
    bare := by
      rw [bareL_map, List.map_append, ← bareL_map, hI.bare, List.take_add_one, hkd]
      simp [hbk]
    vT := fun e => hg2T (Option.some.inj e)
    vs := fun b e e2 => by
      have e3 : g2 = b := Option.some.inj e
      subst e3
      rcases hat with e4 | e4
      · exact hI.vs g2 e4 e2
      · have := (hI.a.own.lt g2 e2).2; omega }
theorem BkA.step {w0 : World} {kind : Int} {flag n k N : Nat} {X : ByteArray} {set : List (Nat × Nat)} {T : Nat} {vad : Option Addr} {vcp : Nat} {wr w5 w6 : World} {r : Nat × Nat} {g2 cap2 : Nat}
    (hs : w0.heap.size = W.heap.size + 2) (hI : BkA W w0 kind flag n k N X (set.take k) T (.slice vad k vcp) (.slice none 0 0) wr) (hr : set.take (k + 1) = set.take k ++ [r]) (hb5 : Below wr.heap.size wr w5) (ho : w6.ownsRow (W.heap.size + 2) 115 2 (.slice (some ⟨g2, 0, none⟩) (k + 1) cap2) (k + 1) (cellsP (set.take k) ++ [.int .u32 r.1, .int .u32 r.2])) (hg : w5.grownBy w6 (Value.slice vad k vcp).ownBlock)
    (hat : (Value.slice vad k vcp).ownBlock = some g2 ∨ g2 = w5.heap.size) :
    BkA W w0 kind flag n (k + 1) N X (set.take (k + 1)) T (.slice (some ⟨g2, 0, none⟩) (k + 1) cap2) (.slice none 0 0) (w6.setCell ⟨T, 2, none⟩ (.slice (some ⟨g2, 0, none⟩) (k + 1) cap2)) := by
  have hT := hI.hT
  have hTl := hI.ct.lt
  have z5 := hb5.size
  have z6 := hg.size
  have hold : ∀ q, (Value.slice vad k vcp).ownBlock = some q → W.heap.size + 2 ≤ q ∧ q < wr.heap.size := fun q hq => hI.own.lt q hq
  have hnT : (Value.slice vad k vcp).ownBlock ≠ some T := fun e => hI.far T e rfl
  have hg2T : g2 ≠ T := by
    rcases hat with e | e
    · intro e2; rw [e2] at e; exact hnT e
    · omega
  have tk6 : Tk T w6 (w6.setCell ⟨T, 2, none⟩ (.slice (some ⟨g2, 0, none⟩) (k + 1) cap2)) := Tk.set w6 2 _
  have hB : Below w0.heap.size w0 (w6.setCell ⟨T, 2, none⟩ (.slice (some ⟨g2, 0, none⟩) (k + 1) cap2)) := by
    have h1 : Below w0.heap.size w0 w5 := hI.below.trans (hb5.mono hI.below.size)
    have h2 : Below w0.heap.size w5 w6 := ⟨hg.os, hg.tape, hg.output, hg.size, fun b hb => grown_at9 hg (by have := h1.size; omega) (fun e => by have := (hold b e).1; omega)⟩
    exact (h1.trans h2).trans (tk6.below (by omega) (by have := (h1.trans h2).size; omega))
  refine ⟨hT, Cells.set (Cells.later (Cells.later hI.ct (hb5.block T hTl)) (grown_at9 hg (by omega) hnT)) 2 _, own_far (by rw [hr, cellsP_snoc]; exact ho) tk6 (fun b e => by have e2 : g2 = b := Option.some.inj e; omega), fun b e => by have e2 : g2 = b := Option.some.inj e; omega, hB⟩
end Go.Proofs.YtpnnchpaaopdcaaGreatDoor
namespace Go.Proofs.YtpnnchpaaopdcaaGreatDoor
open Go Go.RowKit
variable {W : World} {g : Nat} {s : RS} {S : List UInt8}
end Go.Proofs.YtpnnchpaaopdcaaGreatDoor
namespace Go.Proofs.YtpnnchpaaopdcaaGreatDoor
open Go Go.RowKit
variable {W : World}
theorem addr_add9 (b off j : Nat) : (Addr.add ⟨b, off, none⟩ j) = ⟨b, off + j, none⟩ := by
  unfold Addr.add
  split
  · rename_i e; rw [e]; rfl
  · rfl
theorem pairs_news {ad : Addr} {l : List (Nat × Nat)} (h : PairsAt W (some ad) l) : ∀ j u, (cellsP l)[j]? = some u → W.cell? (ad.add j) = some u := by
  intro j u hj
  have hjl : j < l.length * 2 := by have := (List.getElem?_eq_some_iff.1 hj).1; rw [cellsP_len] at this; exact this
  have hk : j / 2 < l.length := by omega
  obtain ⟨b, off, e, hb, c0, c1⟩ := h (j / 2) l[j / 2] (List.getElem?_eq_getElem hk)
  cases e
  obtain ⟨e0, e1⟩ := cellsP_at hk
  rw [addr_add9]
  rcases Nat.mod_two_eq_zero_or_one j with hm | hm
  · have ej : j = j / 2 * 2 := by omega
    rw [ej, e0] at hj
    rw [ej, ← hj]
    exact c0
  · have ej : j = j / 2 * 2 + 1 := by omega
    rw [show (cellsP l)[j]? = (cellsP l)[j / 2 * 2 + 1]? from by rw [← ej], e1] at hj
    rw [show off + j = off + j / 2 * 2 + 1 by omega, ← hj]
    exact c1
theorem cellsP_one (l : List (Nat × Nat)) : ∀ u ∈ cellsP l, u.oneCell' = true := by
  intro u hu
  obtain ⟨x, _, hx⟩ := List.mem_flatMap.1 hu
  simp only [List.mem_cons, List.not_mem_nil, or_false] at hx
  rcases hx with rfl | rfl <;> rfl
theorem cellsK_len (l : List KT) : (cellsK l).length = l.length * 6 := by
  induction l with
  | nil => rfl
  | cons k r ih => rw [cellsK_cons, List.length_append, cells_six, ih, List.length_cons]; omega
theorem cellsK_one (l : List KT) : ∀ u ∈ cellsK l, u.oneCell' = true := by
  intro u hu
  obtain ⟨k, _, hx⟩ := List.mem_flatMap.1 hu
  cases k
  simp only [KT.cells, List.mem_cons, List.not_mem_nil, or_false] at hx
  rcases hx with rfl | rfl | rfl | rfl | rfl | rfl <;> rfl
theorem kids_news {ad : Addr} {l : List KT} (h : KidsC W l (some ad) 0) : ∀ j u, (cellsK l)[j]? = some u → W.cell? (ad.add j) = some u := by
  intro j u hj
  have hjl : j < l.length * 6 := by have := (List.getElem?_eq_some_iff.1 hj).1; rw [cellsK_len] at this; exact this
  have hk : j / 6 < l.length := by omega
  obtain ⟨b, off, e, hb, hc, _⟩ := KidsC.at l (some ad) 0 (j / 6) l[j / 6] h (List.getElem?_eq_getElem hk)
  cases e
  rw [addr_add9]
  have e6 := cellsK_at l (j / 6) (List.getElem?_eq_getElem hk) (j % 6) (by omega)
  rw [show j / 6 * 6 + j % 6 = j by omega, hj] at e6
  have := hc (j % 6) u e6.symm
  rw [show off + (0 + j / 6) * 6 + j % 6 = off + j by omega] at this
  exact this
set_option maxRecDepth 20000 in
set_option maxHeartbeats 800000 in
theorem cloneR_c (sp : Option Addr) (scap : Nat) (set : List (Nat × Nat)) (hs : set.length ≤ 1000) (W : World) (h : PairsAt W sp set) :
    Calls Tryz.prog 130 #[.slice sp set.length scap] W fun e w' => ∃ v', e = .returned v' ∧ w'.ownsRow W.heap.size 112 2 v' set.length (cellsP set) ∧ Below W.heap.size W w' := by
  obtain ⟨i0, hi0, hz0, hz1, hz2⟩ := info_parts infoR
  cases sp with
  | none =>
    have hl : set = [] := by
      cases set with
      | nil => rfl
      | cons x r => obtain ⟨b, off, e, _⟩ := h 0 x rfl; cases e
    subst hl
    have hq : ∀ W, (binOp .eql 34 (.slice none 0 scap) (.slice none 0 0)).run Tryz.prog W = .ok (.bool true) W := fun W => by kernel_rfl
    clear h
    show Calls Tryz.prog 130 #[.slice none 0 scap] W _
    go_enter Tryz.func130, Tryz.ntmps130
    go_wp2_with fail
    go_ret
    exact ⟨_, rfl, World.ownsRow_nil _ _ _ _, Below.refl _ _⟩
  | some ad =>
    have hn := pairs_news (h.below ((Below.refl W.heap.size W).alloc (Nat.le_refl _) (.cells #[] 112)))
    have hlen := cellsP_len set
    obtain ⟨N, hN⟩ : ∃ N, set.length = N := ⟨_, rfl⟩
    rw [hN] at hs hlen ⊢
    have ho : (W.alloc (.cells #[] 112)).ownsRow W.heap.size 112 2 (.slice (some ⟨W.heap.size, 0, none⟩) 0 0) 0 [] :=
      ⟨rfl, .inr ⟨_, 0, #[], rfl, Nat.le_refl _, heap_alloc_new _ _, by simp, by simp, by simp⟩⟩
    have HX := Lib.hid (cellsP_one set)
    have HLE := Lib.hid hlen
    have HNN := Lib.hid hn
    have hq : ∀ W, (binOp .eql 34 (.slice (some ad) N scap) (.slice none 0 0)).run Tryz.prog W = .ok (.bool false) W := fun W => by kernel_rfl
    clear h hn hlen hN
    go_enter Tryz.func130, Tryz.ntmps130
    go_wp2_with (at_builtin; refine wpList_append_own _ rfl (.tmp 5) (.tmp 6) 34 rfl W.heap.size 112 i0 (.agg #[.int .u32 0, .int .u32 0]) 2 8 Tryz.underlying34 hi0 hz0 hz1 hz2 rfl (by decide) _ _ _ rfl ho ad N scap (cellsP set) rfl HLE.out HNN.out HX.out (by unfold maxLen; omega) (by omega) (by simp) ?_)
    intro v' w' hown hgrow _
    go_wp2_with fail
    go_ret
    refine ⟨_, rfl, ?_, ((Below.refl W.heap.size W).alloc (Nat.le_refl _) _).grown hgrow (by simp) (fun q hq => ?_)⟩
    · exact hown
    · cases hq; exact Nat.le_refl _
set_option maxRecDepth 20000 in
set_option maxHeartbeats 800000 in
theorem cloneK_c (kp : Option Addr) (kcap : Nat) (kids : List KT) (hs : kids.length ≤ 1000) (W : World) (h : KidsC W kids kp 0) :
    Calls Tryz.prog 131 #[.slice kp kids.length kcap] W fun e w' => ∃ v', e = .returned v' ∧ w'.ownsRow W.heap.size 37 6 v' kids.length (cellsK kids) ∧ Below W.heap.size W w' := by
  obtain ⟨i0, hi0, hz0, hz1, hz2⟩ := info_parts Tryz.infoKey9
  cases kp with
  | none =>
    have hl : kids = [] := by
      cases kids with
      | nil => rfl
      | cons x r => obtain ⟨b, off, e, _⟩ := KidsC.at _ _ 0 0 x h rfl; cases e
    subst hl
    have hq : ∀ W, (binOp .eql 35 (.slice none 0 kcap) (.slice none 0 0)).run Tryz.prog W = .ok (.bool true) W := fun W => by kernel_rfl
    clear h
    show Calls Tryz.prog 131 #[.slice none 0 kcap] W _
    go_enter Tryz.func131, Tryz.ntmps131
    go_wp2_with fail
    go_ret
    exact ⟨_, rfl, World.ownsRow_nil _ _ _ _, Below.refl _ _⟩
  | some ad =>
    have hn := kids_news (KidsC.below ((Below.refl W.heap.size W).alloc (Nat.le_refl _) (.cells #[] 37)) _ _ _ h)
    have hlen := cellsK_len kids
    obtain ⟨N, hN⟩ : ∃ N, kids.length = N := ⟨_, rfl⟩
    rw [hN] at hs hlen ⊢
    have ho : (W.alloc (.cells #[] 37)).ownsRow W.heap.size 37 6 (.slice (some ⟨W.heap.size, 0, none⟩) 0 0) 0 [] :=
      ⟨rfl, .inr ⟨_, 0, #[], rfl, Nat.le_refl _, heap_alloc_new _ _, by simp, by simp, by simp⟩⟩
    have HX := Lib.hid (cellsK_one kids)
    have HLE := Lib.hid hlen
    have HNN := Lib.hid hn
    have hq : ∀ W, (binOp .eql 35 (.slice (some ad) N kcap) (.slice none 0 0)).run Tryz.prog W = .ok (.bool false) W := fun W => by kernel_rfl
    clear h hn hlen hN
    go_enter Tryz.func131, Tryz.ntmps131
    go_wp2_with (at_builtin; refine wpList_append_own _ rfl (.tmp 5) (.tmp 6) 35 rfl W.heap.size 37 i0 _ 6 88 Tryz.underlying35 hi0 hz0 hz1 hz2 rfl (by decide) _ _ _ rfl ho ad N kcap (cellsK kids) rfl HLE.out HNN.out HX.out (by unfold maxLen; omega) (by omega) (by simp) ?_)
    intro v' w' hown hgrow _
    go_wp2_with fail
    go_ret
    refine ⟨_, rfl, ?_, ((Below.refl W.heap.size W).alloc (Nat.le_refl _) _).grown hgrow (by simp) (fun q hq => ?_)⟩
    · exact hown
    · cases hq; exact Nat.le_refl _
end Go.Proofs.YtpnnchpaaopdcaaGreatDoor

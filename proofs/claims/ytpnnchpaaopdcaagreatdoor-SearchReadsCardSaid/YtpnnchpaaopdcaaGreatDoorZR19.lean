/-
  The law's Back of a key: what stands in its loops. MADE by wip/tools/mkBk.py.
  The document's reading of a key: what stands while it reads.
  slices.Clone at ranges and at keys: contracts.
-/
import Derived.Test.YtpnnchpaaopdcaaGreatDoorZR04
import Derived.Test.YtpnnchpaaopdcaaGreatDoorZR18
import Derived.Test.YtpnnchpaaopdcaaGreatDoorZR09
import Derived.Test.YtpnnchpaaopdcaaGreatDoorZR11
import Derived.Deep.RegionLaw
import Derived.OwnWalk
set_option linter.unusedVariables false
set_option linter.unusedSimpArgs false
namespace Go.Proofs.YtpnnchpaaopdcaaGreatDoor
open Go Go.RowKit
variable {W : World}
theorem Tryz.infoRKey9 : (Tryz.prog.info? 26).map (fun i => (i.zero, i.size, i.bytes)) = some (some (.agg #[.int .i64 0, .int .u8 0, .slice none 0 0, .int .u32 0, .string ⟨#[]⟩, .slice none 0 0]), 6, 88) := by kernel_rfl
theorem Tryz.underlyingRKids9 : Tryz.prog.underlying 24 = some (.slice 26) := by kernel_rfl
mutual
def ShortN (N : Nat) : KT → Prop
  | .mk _ _ set _ _ kids _ _ _ _ => set.length ≤ N ∧ kids.length ≤ N ∧ ShortNL N kids
def ShortNL (N : Nat) : List KT → Prop
  | [] => True
  | k :: r => ShortN N k ∧ ShortNL N r
end
theorem ShortNL.mem {N : Nat} : ∀ {l : List KT}, ShortNL N l → ∀ k ∈ l, ShortN N k
  | [], h, k, hk => by simp at hk
  | x :: r, h, k, hk => by
    unfold ShortNL at h
    rcases List.mem_cons.1 hk with e | hk
    · rw [e]; exact h.1
    · exact ShortNL.mem h.2 k hk
structure BkA (W w0 : World) (kind : Int) (flag n M N : Nat) (X : ByteArray) (set : List (Nat × Nat)) (T : Nat) (sv v : Value) (wx : World) : Prop where
  hT : W.heap.size + 2 ≤ T
  ct : Cells wx T 26 #[.int .i64 kind, .int .u8 flag, sv, .int .u32 n, .string X, v]
  own : wx.ownsRow (W.heap.size + 2) 115 2 sv M (cellsP set)
  far : ∀ b, sv.ownBlock = some b → b ≠ T
  below : Below w0.heap.size w0 wx
structure BkI (W w0 : World) (kind : Int) (flag n M N : Nat) (X : ByteArray) (set : List (Nat × Nat)) (T : Nat) (sv : Value) (kids : List KT) (k : Nat) (kts : List KT) (v : Value) (wx : World) : Prop where
  a : BkA W w0 kind flag n M N X set T sv v wx
  len : kts.length = k
  own : wx.ownsRow (W.heap.size + 2) 26 6 v k (cellsK kts)
  keys : ∀ x ∈ kts, KeyC wx x
  up : ∀ x ∈ kts, KeyIn (W.heap.size + 2) x
  off : ∀ x ∈ kts, KeyQ (fun b => b ≠ T ∧ v.ownBlock ≠ some b) x
  bare : bareL kts = (kids.take k).map bareK
  vT : v.ownBlock ≠ some T
  vs : ∀ b, v.ownBlock = some b → sv.ownBlock ≠ some b
theorem kids_own4 {B R cap : Nat} {kts : List KT} (h : W.ownsRow B 26 6 (.slice (some ⟨R, 0, none⟩) kts.length cap) kts.length (cellsK kts)) (ha : ∀ k ∈ kts, KeyC W k) : KidsC W kts (some ⟨R, 0, none⟩) 0 := by
  refine kids_of kts _ 0 fun j k hj => ?_
  have hjl := (List.getElem?_eq_some_iff.1 hj).1
  refine ⟨R, 0, rfl, (h.lt R rfl).2, fun q u hq => ?_, ha k (List.mem_of_getElem? hj)⟩
  have hq6 : q < 6 := by have := (List.getElem?_eq_some_iff.1 hq).1; rw [cells_six] at this; exact this
  rw [show 0 + (0 + j) * 6 + q = j * 6 + q by omega, h.cellAt _ (by omega), cellsK_at kts j hj q hq6, hq]
theorem kids_own3 {B k : Nat} {v : Value} {kts : List KT} (h : W.ownsRow B 26 6 v k (cellsK kts)) (hl : kts.length = k) (ha : ∀ x ∈ kts, KeyC W x) : ∃ kp kcap, v = .slice kp kts.length kcap ∧ KidsC W kts kp 0 ∧ Up B kp := by
  subst hl
  rcases h.2 with ⟨h1, h2⟩ | ⟨b, cap, cur, h1, h2⟩
  · have hl : kts = [] := List.length_eq_zero_iff.1 h2
    subst hl
    subst h1
    exact ⟨none, 0, rfl, by unfold KidsC; trivial, fun a e => by simp at e⟩
  · subst h1
    exact ⟨_, cap, rfl, kids_own4 h ha, fun a e => by cases e; exact (h.lt b rfl).1⟩
theorem results_b14 (tmps : Array Value) (w : World) (B : Nat) (a b c d e f : Value) (h : Cells w B 26 #[a, b, c, d, e, f]) (h2 : tmps.getD 2 undef = .pointer (some ⟨B, 0, none⟩)) :
    (results Tryz.f29 tmps).run Tryz.prog w = .ok (.agg #[a, b, c, d, e, f]) w := by
  have c0 := h.cell (i := 0) rfl
  have c1 := h.cell (i := 1) rfl
  have c2 := h.cell (i := 2) rfl
  have c3 := h.cell (i := 3) rfl
  have c4 := h.cell (i := 4) rfl
  have c5 := h.cell (i := 5) rfl
  have h2' : tmps[2]?.getD undef = .pointer (some ⟨B, 0, none⟩) := by simpa using h2
  simp [results, Tryz.f29, go_sem, h2', c0, c1, c2, c3, c4, c5]
theorem BkI.step {w0 : World} {kind : Int} {flag n M N : Nat} {X : ByteArray} {set : List (Nat × Nat)} {T : Nat} {sv : Value} {kids : List KT} {k : Nat} {kts : List KT} {vad : Option Addr} {vcp : Nat} {wr w4 w6 : World} {k2 kd : KT} {g2 cap2 : Nat} {cs : Array Value}
    (hs : w0.heap.size = W.heap.size + 2) (hI : BkI W w0 kind flag n M N X set T sv kids k kts (.slice vad k vcp) wr) (hkd : kids[k]? = some kd) (hb4 : Below wr.heap.size wr w4) (hbk : bareK k2 = bareK kd) (hc2 : KeyC w4 k2) (hi2 : KeyIn wr.heap.size k2)
    (hcs : k2.cells.toArray.toList = cs.toList) (ho : w6.ownsRow (W.heap.size + 2) 26 6 (.slice (some ⟨g2, 0, none⟩) (k + 1) cap2) (k + 1) (cellsK kts ++ cs.toList)) (hg : (w4.alloc (.cells cs 26)).grownBy w6 (Value.slice vad k vcp).ownBlock)
    (hat : (Value.slice vad k vcp).ownBlock = some g2 ∨ g2 = w4.heap.size + 1) :
    BkI W w0 kind flag n M N X set T sv kids (k + 1) (kts ++ [k2]) (.slice (some ⟨g2, 0, none⟩) (k + 1) cap2) (w6.setCell ⟨T, 5, none⟩ (.slice (some ⟨g2, 0, none⟩) (k + 1) cap2)) := by
  have hcs : k2.cells = cs.toList := by simpa using hcs
  obtain ⟨w5, hw5⟩ : ∃ w5, w4.alloc (.cells cs 26) = w5 := ⟨_, rfl⟩
  have h45 : Below w4.heap.size w4 w5 := by rw [← hw5]; exact (Below.refl _ w4).alloc (Nat.le_refl _) _
  have z5 : w5.heap.size = w4.heap.size + 1 := by rw [← hw5]; simp
  rw [hw5] at hg
  have hT := hI.a.hT
  have hTl := hI.a.ct.lt
  have z4 := hb4.size
  have z6 := hg.size
  have hr5 : Below wr.heap.size wr w5 := hb4.trans (h45.mono z4)
  have hold : ∀ q, (Value.slice vad k vcp).ownBlock = some q → W.heap.size + 2 ≤ q ∧ q < wr.heap.size := fun q hq => hI.own.lt q hq
  have hnT : (Value.slice vad k vcp).ownBlock ≠ some T := hI.vT
  have hg2T : g2 ≠ T := by
    rcases hat with e | e
    · intro e2; rw [e2] at e; exact hnT e
    · omega
  have hg26 : g2 < w6.heap.size := (ho.lt g2 rfl).2
  have tk6 : Tk T w6 (w6.setCell ⟨T, 5, none⟩ (.slice (some ⟨g2, 0, none⟩) (k + 1) cap2)) := Tk.set w6 5 _
  have hks : KeepQ (fun b => b ≠ T ∧ (Value.slice vad k vcp).ownBlock ≠ some b) w5 (w6.setCell ⟨T, 5, none⟩ (.slice (some ⟨g2, 0, none⟩) (k + 1) cap2)) :=
    ⟨Nat.le_trans z6 tk6.size, fun b hb hlt => (tk6.blk b (by omega) hb.1).trans (grown_at9 hg hlt hb.2)⟩
  have hKc : ∀ x ∈ kts ++ [k2], KeyC w5 x := fun x hx => by
    rcases List.mem_append.1 hx with hx | hx
    · exact KeyC.below hr5 x (hI.keys x hx)
    · rw [List.mem_singleton.1 hx]; exact KeyC.below h45 k2 hc2
  have hKo : ∀ x ∈ kts ++ [k2], KeyQ (fun b => b ≠ T ∧ (Value.slice vad k vcp).ownBlock ≠ some b) x := fun x hx => by
    rcases List.mem_append.1 hx with hx | hx
    · exact hI.off x hx
    · rw [List.mem_singleton.1 hx]
      exact KeyQ.mono (fun b hb => ⟨by omega, fun e => by have := (hold b e).2; omega⟩) k2 (KeyQ.of_in k2 hi2)
  have hct : Cells (w6.setCell ⟨T, 5, none⟩ (.slice (some ⟨g2, 0, none⟩) (k + 1) cap2)) T 26 #[.int .i64 kind, .int .u8 flag, sv, .int .u32 n, .string X, .slice (some ⟨g2, 0, none⟩) (k + 1) cap2] :=
    Cells.set (Cells.later (Cells.later hI.a.ct (hr5.block T hTl)) (grown_at9 hg (by omega) hnT)) 5 _
  have hob : wr.heap.size ≤ w5.heap.size := hr5.size
  have hB : Below w0.heap.size w0 (w6.setCell ⟨T, 5, none⟩ (.slice (some ⟨g2, 0, none⟩) (k + 1) cap2)) := by
    have h1 : Below w0.heap.size w0 w5 := hI.a.below.trans (hr5.mono hI.a.below.size)
    have h2 : Below w0.heap.size w5 w6 := ⟨hg.os, hg.tape, hg.output, hg.size, fun b hb => grown_at9 hg (by have := h1.size; omega) (fun e => by have := (hold b e).1; omega)⟩
    exact (h1.trans h2).trans (tk6.below (by omega) (by have := (h1.trans h2).size; omega))
  exact {
    a := ⟨hT, hct, own_far (own_grown (own_below hI.a.own hr5) hg (fun q hq e => hI.vs q e hq)) tk6 hI.a.far, hI.a.far, hB⟩
    len := by rw [List.length_append, hI.len]; rfl
    own := own_far (by rw [cellsK_snoc, hcs]; exact ho) tk6 (fun b e => by have e2 : g2 = b := Option.some.inj e; omega)
    keys := fun x hx => KeyC.keepQ hks x (hKc x hx) (hKo x hx)
    up := fun x hx => by
      rcases List.mem_append.1 hx with hx | hx
      · exact hI.up x hx
      · rw [List.mem_singleton.1 hx]; exact KeyIn.mono (by have := hI.a.below.size; omega) k2 hi2
    off := fun x hx => by
      rcases hat with e | e
      · rw [e] at hKo; exact hKo x hx
      · have h1 := hKo x hx
        have h2 := KeyC.lt x (hKc x hx)
        have h3 := KeyQ.and (KeyQ.mono (fun b hb => hb.1) x h1) h2
        exact KeyQ.mono (fun b hb => ⟨hb.1, fun e2 => by have e3 : g2 = b := Option.some.inj e2; have := hb.2; omega⟩) x h3
    bare := by
      rw [bareL_map, List.map_append, ← bareL_map, hI.bare, List.take_add_one, hkd]
      simp [hbk]
    vT := fun e => hg2T (Option.some.inj e)
    vs := fun b e e2 => by
      have e3 : g2 = b := Option.some.inj e
      subst e3
      rcases hat with e4 | e4
      · exact hI.vs g2 e4 e2
      · have := (hI.a.own.lt g2 e2).2; omega }
theorem BkA.step {w0 : World} {kind : Int} {flag n k N : Nat} {X : ByteArray} {set : List (Nat × Nat)} {T : Nat} {vad : Option Addr} {vcp : Nat} {wr w5 w6 : World} {r : Nat × Nat} {g2 cap2 : Nat}
    (hs : w0.heap.size = W.heap.size + 2) (hI : BkA W w0 kind flag n k N X (set.take k) T (.slice vad k vcp) (.slice none 0 0) wr) (hr : set.take (k + 1) = set.take k ++ [r]) (hb5 : Below wr.heap.size wr w5) (ho : w6.ownsRow (W.heap.size + 2) 115 2 (.slice (some ⟨g2, 0, none⟩) (k + 1) cap2) (k + 1) (cellsP (set.take k) ++ [.int .u32 r.1, .int .u32 r.2])) (hg : w5.grownBy w6 (Value.slice vad k vcp).ownBlock)
    (hat : (Value.slice vad k vcp).ownBlock = some g2 ∨ g2 = w5.heap.size) :
    BkA W w0 kind flag n (k + 1) N X (set.take (k + 1)) T (.slice (some ⟨g2, 0, none⟩) (k + 1) cap2) (.slice none 0 0) (w6.setCell ⟨T, 2, none⟩ (.slice (some ⟨g2, 0, none⟩) (k + 1) cap2)) := by
  have hT := hI.hT
  have hTl := hI.ct.lt
  have z5 := hb5.size
  have z6 := hg.size
  have hold : ∀ q, (Value.slice vad k vcp).ownBlock = some q → W.heap.size + 2 ≤ q ∧ q < wr.heap.size := fun q hq => hI.own.lt q hq
  have hnT : (Value.slice vad k vcp).ownBlock ≠ some T := fun e => hI.far T e rfl
  have hg2T : g2 ≠ T := by
    rcases hat with e | e
    · intro e2; rw [e2] at e; exact hnT e
    · omega
  have tk6 : Tk T w6 (w6.setCell ⟨T, 2, none⟩ (.slice (some ⟨g2, 0, none⟩) (k + 1) cap2)) := Tk.set w6 2 _
  have hB : Below w0.heap.size w0 (w6.setCell ⟨T, 2, none⟩ (.slice (some ⟨g2, 0, none⟩) (k + 1) cap2)) := by
    have h1 : Below w0.heap.size w0 w5 := hI.below.trans (hb5.mono hI.below.size)
    have h2 : Below w0.heap.size w5 w6 := ⟨hg.os, hg.tape, hg.output, hg.size, fun b hb => grown_at9 hg (by have := h1.size; omega) (fun e => by have := (hold b e).1; omega)⟩
    exact (h1.trans h2).trans (tk6.below (by omega) (by have := (h1.trans h2).size; omega))
  refine ⟨hT, Cells.set (Cells.later (Cells.later hI.ct (hb5.block T hTl)) (grown_at9 hg (by omega) hnT)) 2 _, own_far (by rw [hr, cellsP_snoc]; exact ho) tk6 (fun b e => by have e2 : g2 = b := Option.some.inj e; omega), fun b e => by have e2 : g2 = b := Option.some.inj e; omega, hB⟩
end Go.Proofs.YtpnnchpaaopdcaaGreatDoor
namespace Go.Proofs.YtpnnchpaaopdcaaGreatDoor
open Go Go.RowKit
variable {W : World} {g : Nat} {s : RS} {S : List UInt8}
def ReadDoesD (W : World) (g : Nat) (S : List UInt8) (r : KT × RS) (e : Ending) (w' : World) : Prop :=
  ∃ kt, e = .returned kt.val ∧ bareK kt = r.1 ∧ KeyC w' kt ∧ KeyIn W.heap.size kt ∧ DRS w' g S r.2 ∧ Tk g W w'
def ReadAtD (f : Nat) : Prop := ∀ (d : Int) (W : World) (g : Nat) (s : RS) (S : List UInt8), d = f → DRS W g S s → S.length ≤ 10000 → Calls Tryz.prog 76 #[pt g, .int .i64 d] W (ReadDoesD W g S (readD f s))
theorem results_r4 (tmps : Array Value) (w : World) (B : Nat) (a b c d e f : Value) (h : Cells w B 26 #[a, b, c, d, e, f]) (h2 : tmps.getD 4 undef = .pointer (some ⟨B, 0, none⟩)) :
    (results Tryz.f76 tmps).run Tryz.prog w = .ok (.agg #[a, b, c, d, e, f]) w := by
  have c0 := h.cell (i := 0) rfl
  have c1 := h.cell (i := 1) rfl
  have c2 := h.cell (i := 2) rfl
  have c3 := h.cell (i := 3) rfl
  have c4 := h.cell (i := 4) rfl
  have c5 := h.cell (i := 5) rfl
  have h2' : tmps[4]?.getD undef = .pointer (some ⟨B, 0, none⟩) := by simpa using h2
  simp [results, Tryz.f76, go_sem, h2', c0, c1, c2, c3, c4, c5]
theorem rk_fin {w0 w : World} {a0 a1 a2 a3 a4 a5 : Value} {t : RS} (hb : Below W.heap.size W w0) (hs : w0.heap.size = W.heap.size + 1) (hg : g < W.heap.size) (ht : Tk g w0 w) (hp : DRS w g S t) (kt : KT) (hc : kt.cells = [a0, a1, a2, a3, a4, a5]) (hk : KeyC w kt) (hi : KeyIn (W.heap.size + 1) kt) (r : KT × RS) (hr : (bareK kt, t) = r) :
    ReadDoesD W g S r (.returned (.agg #[a0, a1, a2, a3, a4, a5])) ((((((w.setCell ⟨W.heap.size, 0, none⟩ a0).setCell ⟨W.heap.size, 1, none⟩ a1).setCell ⟨W.heap.size, 2, none⟩ a2).setCell ⟨W.heap.size, 3, none⟩ a3).setCell ⟨W.heap.size, 4, none⟩ a4).setCell ⟨W.heap.size, 5, none⟩ a5) := by
  have ht9 : ∀ (x : World) (i : Nat) (v : Value), Tk W.heap.size w x → Tk W.heap.size w (x.setCell ⟨W.heap.size, i, none⟩ v) := fun x i v h => h.trans (Tk.set x i v)
  have hall := ht9 _ 5 a5 (ht9 _ 4 a4 (ht9 _ 3 a3 (ht9 _ 2 a2 (ht9 _ 1 a1 (ht9 _ 0 a0 (Tk.refl _ w))))))
  subst hr
  have h0 : Tk g W w := (Tk.of_below hb).trans ht
  exact ⟨kt, by unfold KT.val; rw [hc], rfl, KeyC.keep (KeepUp.tk hall (Nat.lt_succ_self _)) kt hk hi, KeyIn.mono (by omega) kt hi, hp.tk hall (by omega), h0.fresh hall (Nat.le_refl _)⟩
theorem plain_c (w : World) (B : Nat) (kind : Int) (flag n : Nat) (s : List UInt8) (hf : flag < 256) (hn : n ≤ 4294967295) (hs : s.length ≤ 100000) : KeyC w (KT.mk kind flag [] n s [] none 0 none 0) ∧ KeyIn B (KT.mk kind flag [] n s [] none 0 none 0) := by
  constructor
  · unfold KeyC; exact ⟨hf, hn, ⟨by simp [maxLen], by simp [maxLen], by unfold maxLen; omega⟩, fun i r hr => by simp at hr, by unfold KidsC; trivial⟩
  · unfold KeyIn; exact ⟨fun a e => by (cases e), fun a e => by (cases e), by unfold KidsIn; trivial⟩
theorem setk_c (w : World) (B : Nat) (kind : Int) (l : List (Nat × Nat)) (sp : Option Addr) (cap : Nat) (hl : l.length ≤ 64) (hp : PairsAt w sp l) (hu : Up B sp) : KeyC w (KT.mk kind 0 l 0 [] [] sp cap none 0) ∧ KeyIn B (KT.mk kind 0 l 0 [] [] sp cap none 0) := by
  constructor
  · unfold KeyC; exact ⟨by omega, by omega, ⟨by unfold maxLen; omega, by simp [maxLen], by simp [maxLen]⟩, hp, by unfold KidsC; trivial⟩
  · unfold KeyIn; exact ⟨fun a e => hu a e, fun a e => by (cases e), by unfold KidsIn; trivial⟩
structure RkI (W w0 : World) (g : Nat) (S : List UInt8) (kind : Int) (T : Nat) (kts : List KT) (n : Nat) (t : RS) (v : Value) (wx : World) : Prop where
  hT : W.heap.size < T
  ct : Cells wx T 26 #[.int .i64 kind, .int .u8 0, .slice none 0 0, .int .u32 0, .string ⟨#[]⟩, v]
  len : kts.length = n
  own : wx.ownsRow (W.heap.size + 1) 26 6 v n (cellsK kts)
  keys : ∀ x ∈ kts, KeyC wx x
  up : ∀ x ∈ kts, KeyIn (W.heap.size + 1) x
  off : ∀ x ∈ kts, KeyQ (fun b => b ≠ T ∧ v.ownBlock ≠ some b) x
  vT : v.ownBlock ≠ some T
  pr : DRS wx g S t
  tk : Tk g w0 wx
theorem RkI.tk' {w0 wx w' : World} {kind : Int} {T : Nat} {kts : List KT} {n : Nat} {t t' : RS} {v : Value} (hg : g < W.heap.size) (h : RkI W w0 g S kind T kts n t v wx) (ht : Tk g wx w') (hp : DRS w' g S t') : RkI W w0 g S kind T kts n t' v w' := by
  have hT := h.hT
  have hTl := h.ct.lt
  have hvb : ∀ q, v.ownBlock = some q → W.heap.size + 1 ≤ q ∧ q < wx.heap.size := fun q hq => h.own.lt q hq
  exact {
    hT := hT
    ct := Cells.later h.ct (ht.blk _ hTl (by omega))
    len := h.len
    own := own_far h.own ht (fun b e => by have := (hvb b e).1; omega)
    keys := fun x hx => KeyC.keep (KeepUp.tk ht (by omega)) x (h.keys x hx) (h.up x hx)
    up := h.up
    off := h.off
    vT := h.vT
    pr := hp
    tk := h.tk.trans ht }
theorem RkI.step {w0 wr w4 w6 : World} {kind : Int} {T : Nat} {kts : List KT} {n : Nat} {t t' : RS} {vad : Option Addr} {vcp : Nat} {k2 : KT} {g2 cap2 : Nat} {cs : Array Value} (hg9 : g < W.heap.size) (hz0 : w0.heap.size = W.heap.size + 1)
    (hI : RkI W w0 g S kind T kts n t (.slice vad n vcp) wr) (ht4 : Tk g wr w4) (hp4 : DRS w4 g S t') (hc2 : KeyC w4 k2) (hi2 : KeyIn wr.heap.size k2)
    (hcs : k2.cells.toArray.toList = cs.toList) (ho : w6.ownsRow (W.heap.size + 1) 26 6 (.slice (some ⟨g2, 0, none⟩) (n + 1) cap2) (n + 1) (cellsK kts ++ cs.toList)) (hg : (w4.alloc (.cells cs 26)).grownBy w6 (Value.slice vad n vcp).ownBlock)
    (hat : (Value.slice vad n vcp).ownBlock = some g2 ∨ g2 = w4.heap.size + 1) :
    RkI W w0 g S kind T (kts ++ [k2]) (n + 1) t' (.slice (some ⟨g2, 0, none⟩) (n + 1) cap2) (w6.setCell ⟨T, 5, none⟩ (.slice (some ⟨g2, 0, none⟩) (n + 1) cap2)) := by
  have hcs : k2.cells = cs.toList := by simpa using hcs
  obtain ⟨w5, hw5⟩ : ∃ w5, w4.alloc (.cells cs 26) = w5 := ⟨_, rfl⟩
  have h45 : Below w4.heap.size w4 w5 := by rw [← hw5]; exact (Below.refl _ w4).alloc (Nat.le_refl _) _
  have z5 : w5.heap.size = w4.heap.size + 1 := by rw [← hw5]; simp
  rw [hw5] at hg
  have hT := hI.hT
  have hTl := hI.ct.lt
  have z4 := ht4.size
  have z6 := hg.size
  have hgT : g ≠ T := by omega
  have hold : ∀ q, (Value.slice vad n vcp).ownBlock = some q → W.heap.size + 1 ≤ q ∧ q < wr.heap.size := fun q hq => hI.own.lt q hq
  have hnT : (Value.slice vad n vcp).ownBlock ≠ some T := hI.vT
  have hg2T : g2 ≠ T := by
    rcases hat with e | e
    · intro e2; rw [e2] at e; exact hnT e
    · omega
  have tk5 : Tk g wr w5 := ht4.trans (Tk.of_below h45)
  have tk6 : Tk T w6 (w6.setCell ⟨T, 5, none⟩ (.slice (some ⟨g2, 0, none⟩) (n + 1) cap2)) := Tk.set w6 5 _
  have hks : KeepQ (fun b => b ≠ T ∧ (Value.slice vad n vcp).ownBlock ≠ some b) w5 (w6.setCell ⟨T, 5, none⟩ (.slice (some ⟨g2, 0, none⟩) (n + 1) cap2)) :=
    ⟨Nat.le_trans z6 tk6.size, fun b hb hlt => (tk6.blk b (by omega) hb.1).trans (grown_at9 hg hlt hb.2)⟩
  have hKc : ∀ x ∈ kts ++ [k2], KeyC w5 x := fun x hx => by
    rcases List.mem_append.1 hx with hx | hx
    · exact KeyC.keep (KeepUp.tk tk5 (by omega)) x (hI.keys x hx) (hI.up x hx)
    · rw [List.mem_singleton.1 hx]; exact KeyC.below h45 k2 hc2
  have hKo : ∀ x ∈ kts ++ [k2], KeyQ (fun b => b ≠ T ∧ (Value.slice vad n vcp).ownBlock ≠ some b) x := fun x hx => by
    rcases List.mem_append.1 hx with hx | hx
    · exact hI.off x hx
    · rw [List.mem_singleton.1 hx]
      exact KeyQ.mono (fun b hb => ⟨by omega, fun e => by have := (hold b e).2; omega⟩) k2 (KeyQ.of_in k2 hi2)
  have hct : Cells (w6.setCell ⟨T, 5, none⟩ (.slice (some ⟨g2, 0, none⟩) (n + 1) cap2)) T 26 #[.int .i64 kind, .int .u8 0, .slice none 0 0, .int .u32 0, .string ⟨#[]⟩, .slice (some ⟨g2, 0, none⟩) (n + 1) cap2] :=
    Cells.set (Cells.later (Cells.later hI.ct (tk5.blk T hTl (by omega))) (grown_at9 hg (by have := tk5.size; omega) hnT)) 5 _
  have hg5 : g < w5.heap.size := by have := hp4.lt; omega
  have hgo : (Value.slice vad n vcp).ownBlock ≠ some g := fun e => by have := (hold g e).1; omega
  have hp6 : DRS (w6.setCell ⟨T, 5, none⟩ (.slice (some ⟨g2, 0, none⟩) (n + 1) cap2)) g S t' := by
    obtain ⟨a, f, h1, h2⟩ := hp4
    have h3 : DR w5 g S a f := Cells.later h1 (h45.block g (Cells.lt h1))
    have h4 : DR w6 g S a f := Cells.later h3 (grown_at9 hg hg5 hgo)
    exact ⟨a, f, Cells.later h4 (tk6.blk g (Cells.lt h4) hgT), h2⟩
  have hz := hI.tk.size
  have hB : Tk g w0 (w6.setCell ⟨T, 5, none⟩ (.slice (some ⟨g2, 0, none⟩) (n + 1) cap2)) := by
    have h1 : Tk g w0 w5 := hI.tk.trans tk5
    refine ⟨hg.os.trans h1.os, hg.tape.trans h1.tape, hg.output.trans h1.output, by rw [size_setCell]; exact Nat.le_trans h1.size z6, fun k hk hne => ?_⟩
    rw [tk6.blk k (by have := h1.size; omega) (by omega), grown_at9 hg (by have := h1.size; omega) (fun e => by have := (hold k e).1; omega)]
    exact h1.blk k hk hne
  exact {
    hT := hT
    ct := hct
    len := by rw [List.length_append, hI.len]; rfl
    own := own_far (by rw [cellsK_snoc, hcs]; exact ho) tk6 (fun b e => by have e2 : g2 = b := Option.some.inj e; omega)
    keys := fun x hx => KeyC.keepQ hks x (hKc x hx) (hKo x hx)
    up := fun x hx => by
      rcases List.mem_append.1 hx with hx | hx
      · exact hI.up x hx
      · rw [List.mem_singleton.1 hx]; exact KeyIn.mono (by have := hI.tk.size; omega) k2 hi2
    off := fun x hx => by
      rcases hat with e | e
      · rw [e] at hKo; exact hKo x hx
      · have h1 := hKo x hx
        have h2 := KeyC.lt x (hKc x hx)
        have h3 := KeyQ.and (KeyQ.mono (fun b hb => hb.1) x h1) h2
        exact KeyQ.mono (fun b hb => ⟨hb.1, fun e2 => by have e3 : g2 = b := Option.some.inj e2; have := hb.2; omega⟩) x h3
    vT := fun e => hg2T (Option.some.inj e)
    pr := hp6
    tk := hB }
theorem RkI.fin {w0 wx : World} {kind : Int} {T : Nat} {kts : List KT} {n : Nat} {t : RS} {v : Value} (hb : Below W.heap.size W w0) (hs : w0.heap.size = W.heap.size + 1) (hg : g < W.heap.size) (h : RkI W w0 g S kind T kts n t v wx) (hn : n ≤ 100000) (r : KT × RS) (hr : (KT.mk kind 0 [] 0 [] (bareL kts) none 0 none 0, t) = r) :
    ReadDoesD W g S r (.returned (.agg #[.int .i64 kind, .int .u8 0, .slice none 0 0, .int .u32 0, .string ⟨#[]⟩, v])) ((((((wx.setCell ⟨W.heap.size, 0, none⟩ (.int .i64 kind)).setCell ⟨W.heap.size, 1, none⟩ (.int .u8 0)).setCell ⟨W.heap.size, 2, none⟩ (.slice none 0 0)).setCell ⟨W.heap.size, 3, none⟩ (.int .u32 0)).setCell ⟨W.heap.size, 4, none⟩ (.string ⟨#[]⟩)).setCell ⟨W.heap.size, 5, none⟩ v) := by
  obtain ⟨kp, kcap, hv, hk, hu⟩ := kids_own3 h.own h.len h.keys
  subst hv
  refine rk_fin hb hs hg h.tk h.pr (KT.mk kind 0 [] 0 [] kts none 0 kp kcap) rfl ?_ ?_ r ?_
  · unfold KeyC
    exact ⟨by omega, by omega, ⟨by simp [maxLen], by rw [h.len]; unfold maxLen; omega, by simp [maxLen]⟩, fun i r hr => by simp at hr, hk⟩
  · unfold KeyIn
    exact ⟨fun a e => by (cases e), fun a e => hu a e, kidsIn_of kts h.up⟩
  · rw [← hr]; rfl
def cntK (T C : Nat) (w : World) : Nat := match w.cell? ⟨T, 5, none⟩ with
  | some (.slice _ n _) => C + 1 - n
  | _ => 0
theorem cntK_of {T C : Nat} {w : World} {p : Option Addr} {n c : Nat} (h : w.cell? ⟨T, 5, none⟩ = some (.slice p n c)) : cntK T C w = C + 1 - n := by unfold cntK; rw [h]
theorem loop_next {rd : RS → KT × RS} {many m : Nat} {ks : List KT} {s : RS} (hf : s.f = false) (hm : 1 ≤ m) : ∃ m', m = m' + 1 ∧
    (many = 0 → wordB (rd s).2 [41] = true → loopD rd many m ks s = (ks ++ [(rd s).1], wordS (rd s).2 [41])) ∧ (many = 0 → wordB (rd s).2 [41] = false → loopD rd many m ks s = loopD rd many m' (ks ++ [(rd s).1]) (mustS (rd s).2 [32])) ∧
    (many ≠ 0 → ks.length + 1 = many → loopD rd many m ks s = (ks ++ [(rd s).1], (rd s).2)) ∧ (many ≠ 0 → ks.length + 1 ≠ many → loopD rd many m ks s = loopD rd many m' (ks ++ [(rd s).1]) (mustS (rd s).2 [32])) := by
  obtain ⟨m', rfl⟩ : ∃ m', m = m' + 1 := ⟨m - 1, by omega⟩
  refine ⟨m', rfl, fun h1 h2 => ?_, fun h1 h2 => ?_, fun h1 h2 => ?_, fun h1 h2 => ?_⟩
  · conv => lhs; unfold loopD
    rw [hf, h2]; simp [h1]
  · conv => lhs; unfold loopD
    rw [hf, h2]; simp [h1]
  · conv => lhs; unfold loopD
    rw [hf]; simp [h1, h2]
  · conv => lhs; unfold loopD
    rw [hf]; simp [h1, h2]
theorem bareL_snoc {ks : List KT} {k b : KT} (h : bareK k = b) : bareL (ks ++ [k]) = bareL ks ++ [b] := by
  rw [bareL_map, bareL_map, List.map_append]; simp [h]
theorem drs_f {a : Nat} {f : Bool} {t : RS} (h : dS S a f = t) : t.f = f := by
  rw [← h]; cases f <;> rfl
end Go.Proofs.YtpnnchpaaopdcaaGreatDoor
namespace Go.Proofs.YtpnnchpaaopdcaaGreatDoor
open Go Go.RowKit
variable {W : World}
end Go.Proofs.YtpnnchpaaopdcaaGreatDoor

/-
  A frame with many marks: a loop each of whose rounds ranges over a function.
  The walk through a key and all below it, begun: keys in a row, each ahead of what stands below it; what the iterator has captured.
  A range over a function, a round of it told that the loop's record is there.
  The walk through a key and all below it: the iterator's step.
  slices.IndexFunc, slices.ContainsFunc over a row of keys: a contract for each closure. (Made by mkSk3.py.)
  The document's Same of two keys: contract.
  Whether a key may be, by the document: lists and what is shared by the texts of its kinds. MADE by wip/tools/mkKy7.py.
  Is it just one of the five flags, by the program: a contract.
  strings.Builder at this program: copyCheck, WriteByte, WriteString (their closures here are not the shelf's).
  A set's text.
  The document's text of a set that is an argument's; of a flag, as it stands in a key: contracts.
  A flag's name as it stands in a key, by the document: contracts.
  The program's reader: literals, quoted texts, strings: contracts.
-/
import Derived.Test.YtdpmnmiimfhlhaaGreatDoorZL05
import Derived.Test.YtdpmnmiimfhlhaaGreatDoorZL06
import Derived.RangeFuncLeaves
import Derived.Test.YtdpmnmiimfhlhaaGreatDoorZL01
import Derived.OwnWalkIn
import Derived.Deep.CutRange
import Derived.LoopTactic
import Derived.Deep.RegionHeld3
import Derived.Lib.Strings
import Derived.Laws.StructEq
import Derived.Test.YtdpmnmiimfhlhaaGreatDoorZL02
import Derived.Lib.OthersKept
import Derived.Lib.FrozenHead2
import Derived.WalkLawsBesides
set_option linter.unusedVariables false
set_option linter.unusedSimpArgs false
namespace Go.Proofs.YtdpmnmiimfhlhaaGreatDoor
open Go Go.RowKit

def markOf (D : Nat) : Deferred := { target := .collected D, args := #[] }
/-- The marks of ranges that are over: their blocks, each from lo on, hold no call. -/
def Marks (lo : Nat) (ms : List Deferred) (W : World) : Prop := ∃ Ds : List Nat, ms = Ds.map markOf ∧ Ds.Nodup ∧ ∀ D, D ∈ Ds → lo ≤ D ∧ W.heap[D]? = some (.deferred (some []))
variable {lo : Nat} {ms : List Deferred} {W W' : World}
theorem Marks.nil (lo : Nat) (W : World) : Marks lo [] W := ⟨[], rfl, .nil, by simp⟩
theorem Marks.cons {D : Nat} (h : Marks lo ms W) (hD : lo ≤ D) (hW : W.heap[D]? = some (.deferred (some []))) (hn : ∀ d, d ∈ ms → d ≠ markOf D) : Marks lo (markOf D :: ms) W := by
  obtain ⟨Ds, rfl, h1, h2⟩ := h
  refine ⟨D :: Ds, rfl, List.nodup_cons.2 ⟨fun hd => hn _ (List.mem_map.2 ⟨D, hd, rfl⟩) rfl, h1⟩, fun D' hD' => ?_⟩
  rcases List.mem_cons.1 hD' with rfl | hD'
  · exact ⟨hD, hW⟩
  · exact h2 D' hD'
theorem Marks.keep (h : Marks lo ms W) (hk : ∀ k, lo ≤ k → k < W.heap.size → W.heap[k]? = some (.deferred (some [])) → W'.heap[k]? = W.heap[k]?) : Marks lo ms W' := by
  obtain ⟨Ds, rfl, h1, h2⟩ := h
  exact ⟨Ds, rfl, h1, fun D hD => ⟨(h2 D hD).1, (hk D (h2 D hD).1 (Array.getElem?_eq_some_iff.1 (h2 D hD).2).1 (h2 D hD).2).trans (h2 D hD).2⟩⟩
theorem Marks.keep' (h : Marks lo ms W) (hk : ∀ k, markOf k ∈ ms → W'.heap[k]? = W.heap[k]?) : Marks lo ms W' := by
  obtain ⟨Ds, rfl, h1, h2⟩ := h
  exact ⟨Ds, rfl, h1, fun D hD => ⟨(h2 D hD).1, (hk D (List.mem_map.2 ⟨D, hD, rfl⟩)).trans (h2 D hD).2⟩⟩
theorem Marks.keeps {T : TypeId → Prop} {cap : Nat → Prop} {D : Nat} (h : Marks lo ms W) (hD : D ≤ lo) (hk : Keeps T cap D W W') : Marks lo ms W' :=
  h.keep fun k hk1 _ hk2 => by rw [hk2]; exact hk.same k _ hk2 (.inr ⟨by omega, fun c e fz _ h => by cases h⟩)
theorem Marks.lt (h : Marks lo ms W) {D : Nat} (hD : markOf D ∈ ms) : D < W.heap.size := by
  obtain ⟨Ds, rfl, h1, h2⟩ := h
  obtain ⟨D', hD', he⟩ := List.mem_map.1 hD
  unfold markOf at he
  cases he
  exact (Array.getElem?_eq_some_iff.1 (h2 D hD').2).1
theorem Marks.itself {T0 : TypeId → Prop} {m : Nat → Prop} (h : Marks lo ms W) (hm : ∀ k, m k → k < lo) (hi : ItselfM T0 W.heap.size m W W') : Marks lo ms W' :=
  h.keep fun k hk1 hk2 _ => hi.below k hk2 (fun x => by have := hm k x; omega)
theorem Marks.below (h : Marks lo ms W) (hb : Below W.heap.size W W') : Marks lo ms W' := h.keep fun k _ hk _ => hb.block k hk
/-- The way out past all marks. -/
theorem leaves_marks {F : Fence} {n : Nat} {P : Program} {fn : Func} {tmps : Array Value} {R : Ending → World → Prop} : ∀ (Ds : List Nat) (W : World), Ds.Nodup → (∀ D, D ∈ Ds → lo ≤ D ∧ W.heap[D]? = some (.deferred (some []))) →
    (∀ W', Itself (fun _ => False) lo W W' → LeavesIn F n P fn tmps R [] .returning W') → LeavesInM F n P fn tmps R (Ds.map markOf) .returning W := by
  intro Ds
  induction Ds with
  | nil => intro W _ _ hR; exact hR W (Itself.refl _ _ _)
  | cons D Ds ih =>
    intro W hnd hW hR
    obtain ⟨h1, h2⟩ := List.nodup_cons.1 hnd
    obtain ⟨h3, h4⟩ := hW D List.mem_cons_self
    have hi : Itself (fun _ => False) lo W (W.putObj D (.deferred none)) := Itself.putObj _ W D _ _ h3 h4 rfl
    refine ⟨by simp, .inl ⟨D, _, rfl, run_takeDeferred h4, ih _ h2 (fun D' hD' => ?_) (fun W' hW' => hR W' (hi.trans hW'))⟩⟩
    obtain ⟨h5, h6⟩ := hW D' (List.mem_cons_of_mem _ hD')
    exact ⟨h5, (World.putObj_heap_other (show D' ≠ D by rintro rfl; exact h1 hD')).trans h6⟩
theorem Marks.leaves {F : Fence} {n : Nat} {P : Program} {fn : Func} {tmps : Array Value} {R : Ending → World → Prop} (h : Marks lo ms W) (hR : ∀ W', Itself (fun _ => False) lo W W' → LeavesIn F n P fn tmps R [] .returning W') : LeavesInM F n P fn tmps R ms .returning W := by
  obtain ⟨Ds, rfl, h1, h2⟩ := h
  exact leaves_marks Ds W h1 h2 hR
end Go.Proofs.YtdpmnmiimfhlhaaGreatDoor
set_option linter.unusedVariables false
set_option linter.unusedSimpArgs false
namespace Go.Proofs.YtdpmnmiimfhlhaaGreatDoor
open Go Go.RowKit

mutual
def preK : KT → List KT
  | .mk kind flag set n s kids sp scap kp kcap => .mk kind flag set n s kids sp scap kp kcap :: preKs kids
def preKs : List KT → List KT
  | [] => []
  | k :: r => preK k ++ preKs r
end
theorem preK_eq (k : KT) : preK k = k :: preKs k.kids := by cases k; rw [preK]; rfl
theorem preKs_app : ∀ (a b : List KT), preKs (a ++ b) = preKs a ++ preKs b
  | [], b => by rw [List.nil_append, preKs]; rfl
  | k :: a, b => by rw [List.cons_append, preKs, preKs, preKs_app a b, List.append_assoc]
theorem preKs_at {l : List KT} {i : Nat} {k : KT} (h : l[i]? = some k) : preKs (l.take (i + 1)) = preKs (l.take i) ++ preK k := by
  obtain ⟨hk, rfl⟩ := List.getElem?_eq_some_iff.1 h
  rw [List.take_succ_eq_append_getElem hk, preKs_app, preKs, preKs, List.append_nil]
theorem segK {l : List KT} {i : Nat} {k : KT} (h : l[i]? = some k) : ∃ t, preKs l = preKs (l.take i) ++ preK k ++ t := by
  refine ⟨preKs (l.drop (i + 1)), ?_⟩
  rw [← preKs_at h, ← preKs_app, List.take_append_drop]

mutual
theorem KeyC.same {W W' : World} (hs : W.heap.size ≤ W'.heap.size) (hb : ∀ j, j < W.heap.size → W'.heap[j]? = W.heap[j]?) : ∀ (k : KT), KeyC W k → KeyC W' k
  | .mk kind flag set n s kids sp scap kp kcap, h => by
    unfold KeyC at h ⊢
    obtain ⟨h2, h3, hm, h4, h5⟩ := h
    refine ⟨h2, h3, hm, fun i r hr => ?_, KidsC.same hs hb kids kp 0 h5⟩
    obtain ⟨b, off, e1, e2, e3, e4⟩ := h4 i r hr
    exact ⟨b, off, e1, Nat.lt_of_lt_of_le e2 hs, (World.cell?_of_block (a := ⟨b, _, none⟩) (hb b e2)).trans e3, (World.cell?_of_block (a := ⟨b, _, none⟩) (hb b e2)).trans e4⟩
theorem KidsC.same {W W' : World} (hs : W.heap.size ≤ W'.heap.size) (hb : ∀ j, j < W.heap.size → W'.heap[j]? = W.heap[j]?) : ∀ (r : List KT) (kp : Option Addr) (i : Nat), KidsC W r kp i → KidsC W' r kp i
  | [], kp, i, h => by unfold KidsC; trivial
  | k :: r, kp, i, h => by
    unfold KidsC at h ⊢
    obtain ⟨⟨b, off, h1, h2, h3, h4⟩, h5⟩ := h
    exact ⟨⟨b, off, h1, Nat.lt_of_lt_of_le h2 hs, fun j u hu => (World.cell?_of_block (a := ⟨b, _, none⟩) (hb b h2)).trans (h3 j u hu), KeyC.same hs hb k h4⟩, KidsC.same hs hb r kp (i + 1) h5⟩
end
/-- A box that holds a key. -/
def Box6 (W : World) (b : Nat) (k : KT) : Prop := W.heap[b]? = some (.cells k.cells.toArray 37 (0, 0))
theorem Box6.lt {W : World} {b : Nat} {k : KT} (h : Box6 W b k) : b < W.heap.size := (Array.getElem?_eq_some_iff.1 h).1
theorem Box6.cell {W : World} {b : Nat} {k : KT} (h : Box6 W b k) {j : Nat} {u : Value} (hu : k.cells[j]? = some u) : W.cell? ⟨b, j, none⟩ = some u := by
  have h' : W.heap[b]? = _ := h
  simp [World.cell?, h', hu]
theorem Box6.six {W : World} {b : Nat} {kind : Int} {flag n : Nat} {set : List (Nat × Nat)} {s : List UInt8} {kids : List KT} {sp kp : Option Addr} {scap kcap : Nat} (h : Box6 W b (.mk kind flag set n s kids sp scap kp kcap)) :
    W.cell? ⟨b, 0, none⟩ = some (.int .i64 kind) ∧ W.cell? ⟨b, 1, none⟩ = some (.int .u8 flag) ∧ W.cell? ⟨b, 2, none⟩ = some (.slice sp set.length scap) ∧ W.cell? ⟨b, 3, none⟩ = some (.int .u32 n) ∧ W.cell? ⟨b, 4, none⟩ = some (.string (txt s)) ∧ W.cell? ⟨b, 5, none⟩ = some (.slice kp kids.length kcap) :=
  ⟨h.cell rfl, h.cell rfl, h.cell rfl, h.cell rfl, h.cell rfl, h.cell rfl⟩
def skT0 (e : TypeId) : Prop := e = 37 ∨ e = 46
def capK (b1 H : Nat) (j : Nat) : Prop := j = b1 ∨ j < H
/-- What the iterator has captured: its key's box; what the key reaches lies as it did in W0. -/
structure SKC (W0 : World) (b1 : Nat) (k : KT) (W : World) : Prop where
  bx : Box6 W b1 k
  sz : W0.heap.size ≤ W.heap.size
  sm : ∀ j, j < W0.heap.size → W.heap[j]? = W0.heap[j]?
variable {W0 W W' : World} {b1 : Nat} {k : KT}
theorem SKC.key (h : SKC W0 b1 k W) {x : KT} (hk : KeyC W0 x) : KeyC W x := KeyC.same h.sz h.sm x hk
theorem SKC.below (h : SKC W0 b1 k W) (hb : Below W.heap.size W W') : SKC W0 b1 k W' :=
  ⟨(hb.block _ h.bx.lt).trans h.bx, Nat.le_trans h.sz hb.size, fun j hj => (hb.block j (Nat.lt_of_lt_of_le hj h.sz)).trans (h.sm j hj)⟩
theorem obj_at {W : World} {j : Nat} (h : j < W.heap.size) : ∃ o, W.heap[j]? = some o := ⟨_, Array.getElem?_eq_getElem h⟩
theorem SKC.keeps {T : TypeId → Prop} {D : Nat} {cap : Nat → Prop} (h : SKC W0 b1 k W) (hk : Keeps T cap D W W') (hc : cap b1) (hc2 : ∀ j, j < W0.heap.size → cap j) : SKC W0 b1 k W' :=
  ⟨hk.same _ _ h.bx (.inl hc), Nat.le_trans h.sz hk.size, fun j hj => by
    obtain ⟨o, ho⟩ := obj_at (Nat.lt_of_lt_of_le hj h.sz)
    rw [hk.same j o ho (.inl (hc2 j hj)), ← ho, h.sm j hj]⟩
theorem SKC.itself {T0 : TypeId → Prop} {D : Nat} (h : SKC W0 b1 k W) (hi : Itself T0 D W W') (h1 : b1 < D) (h2 : W0.heap.size ≤ D) : SKC W0 b1 k W' :=
  ⟨(hi.below _ h1).trans h.bx, Nat.le_trans h.sz hi.size, fun j hj => (hi.below j (by omega)).trans (h.sm j hj)⟩
def IterK (k : KT) : Prop := ∀ (W0 : World) (b1 : Nat), KeyC W0 k → Iter Tryz.prog 132 #[.pointer (some ⟨b1, 0, none⟩)] (fun x : KT => #[x.val]) skT0 (capK b1 W0.heap.size) (SKC W0 b1 k)
  (fun pre x => pre ++ [x] <+: preK k) (fun xs => xs = preK k) (fun pre => pre <+: preK k)
set_option maxRecDepth 20000 in
theorem keys_c (k : KT) (W : World) : Calls Tryz.prog 73 #[k.val] W fun e w' => e = .returned (.func (.func 132) #[] #[.pointer (some ⟨W.heap.size, 0, none⟩)]) ∧ Box6 w' W.heap.size k ∧ Below W.heap.size W w' ∧ w'.heap.size = W.heap.size + 1 := by
  have h1 := heap_alloc_new W (.cells k.cells.toArray 37)
  have h2 : Below W.heap.size W (W.alloc (.cells k.cells.toArray 37)) := (Below.refl _ _).alloc (Nat.le_refl _) _
  have HH : Hid (Box6 (W.alloc (.cells k.cells.toArray 37)) W.heap.size k ∧ Below W.heap.size W (W.alloc (.cells k.cells.toArray 37)) ∧ (W.alloc (.cells k.cells.toArray 37)).heap.size = W.heap.size + 1) := ⟨h1, h2, by simp⟩
  clear h1 h2
  cases k with
  | mk kind flag set n s kids sp scap kp kcap =>
    unfold KT.val
    simp only [KT.cells] at HH ⊢
    go_enter Tryz.func73, Tryz.ntmps73
    go_wp2_with fail
    go_ret
    exact ⟨rfl, HH.out⟩
/-- What the loop over the kids holds. -/
structure LoopK (W0 : World) (b1 lo : Nat) (k : KT) (l : Nat) (J : List KT → World → Prop) (i : Nat) (ms : List Deferred) (w : World) : Prop where
  kc : SKC W0 b1 k w
  yb : Boxed w lo 46 (.func (.yield l) #[] #[])
  jj : J (k :: preKs (k.kids.take i)) w
  mks : Marks lo ms w
/-- What a round of the inner range holds. -/
structure RK (W0 : World) (b1 lo B : Nat) (k kid : KT) (l : Nat) (ms : List Deferred) (sz : Nat) (w : World) : Prop where
  kc : SKC W0 b1 k w
  yb : Boxed w lo 46 (.func (.yield l) #[] #[])
  mks : Marks lo ms w
  siz : sz ≤ w.heap.size
  kd : SKC W0 B kid w
structure RKS (W0 : World) (b1 lo B : Nat) (ms : List Deferred) (sz : Nat) : Prop where
  a1 : b1 < lo
  aH : W0.heap.size ≤ lo
  aB : lo < B
  az : B < sz
  ak : ∀ k, markOf k ∈ ms → k < sz ∧ lo ≤ k
variable {lo B l sz : Nat} {kid : KT} {ms : List Deferred}
theorem RK.itself (h : RK W0 b1 lo B k kid l ms sz W) (hs : RKS W0 b1 lo B ms sz) (hi : Itself skT0 sz W W') : RK W0 b1 lo B k kid l ms sz W' := by
  have h1 := hs.a1
  have h2 := hs.aH
  have h3 := hs.aB
  have h4 := hs.az
  exact ⟨h.kc.itself hi (by omega) (by omega), hi.boxed h.yb (.inl (by omega)), h.mks.keep' (fun j hj => hi.below j (hs.ak j hj).1), Nat.le_trans h.siz hi.size, h.kd.itself hi (by omega) (by omega)⟩
theorem RK.inner {T : TypeId → Prop} (h : RK W0 b1 lo B k kid l ms sz W) (hs : RKS W0 b1 lo B ms sz) (hT : ∀ e, T e → ¬ skT0 e) (hk : Keeps T (capK b1 W0.heap.size) lo W W') : Keeps T (capK B W0.heap.size) sz W W' := by
  have h3 := hs.aB
  have h4 := hs.az
  refine hk.mono (fun _ h => h) (by omega) (fun j o ho hj => ?_)
  rcases hj with rfl | hj
  · exact .inr ⟨by omega, fun c e fz he heq => by
      rw [show W.heap[j]? = _ from h.kd.bx] at ho
      rw [heq] at ho
      cases ho
      exact hT _ he (.inl rfl)⟩
  · exact .inl (.inr hj)
theorem RK.keeps {T : TypeId → Prop} (h : RK W0 b1 lo B k kid l ms sz W) (hs : RKS W0 b1 lo B ms sz) (hT : ∀ e, T e → ¬ skT0 e) (hk : Keeps T (capK b1 W0.heap.size) lo W W') : RK W0 b1 lo B k kid l ms sz W' := by
  have hki := h.inner hs hT hk
  exact ⟨h.kc.keeps hk (.inl rfl) (fun j hj => .inr hj), hk.boxed h.yb (.inr ⟨Nat.le_refl _, fun x => hT _ x (.inr rfl)⟩), h.mks.keeps (Nat.le_refl _) hk, Nat.le_trans h.siz hk.size, h.kd.keeps hki (.inl rfl) (fun j hj => .inr hj)⟩
end Go.Proofs.YtdpmnmiimfhlhaaGreatDoor
set_option linter.unusedVariables false
set_option linter.unusedSimpArgs false
namespace Go.Proofs.YtdpmnmiimfhlhaaGreatDoor
open Go Go.RowKit

theorem ItselfM.plain {T0 : TypeId → Prop} {D : Nat} {A B : World} (h : ItselfM T0 D (fun _ => False) A B) : Itself T0 D A B := ⟨h.os, h.tape, h.output, h.size, fun k hk => h.below k hk (fun x => x), h.same⟩
theorem wpIn_rangeIterL {n : Nat} {P : Program} {α : Type} {g : Operand} {ps : Array Tmp} {assign body : Code} {Q : Exit → Act → World → Prop} {a : Act} {w : World}
    {gf : Nat} {lb : Array Value} (hg : a.eval g = .func (.func gf) #[] lb) (eg : ∀ args w, (callFunc gf args).run P w = .ok (.enter gf args) w)
    {encs : α → Array Value} {T0 : TypeId → Prop} {cap : Nat → Prop} {capW : World → Prop} {step : List α → α → Prop} {S Sp : List α → Prop}
    (hit : Iter P gf lb encs T0 cap capW step S Sp) (T : TypeId → Prop) (hT : ∀ e, T e → ¬ T0 e) (hps : ∀ x, (encs x).size = ps.size)
    (hcap : ∀ k, cap k → k < w.heap.size) (hcW : ∀ W, Below w.heap.size w W → capW W)
    (I : List α → World → Prop) (Ix : Code → List α → World → Prop)
    (hI : ∀ s A B, I s A → Itself T0 w.heap.size A B → I s B) (hIx : ∀ c s A B, Ix c s A → Itself T0 w.heap.size A B → Ix c s B) (h0 : I [] w)
    (hround : ∀ (l : Nat) (pre : List α) (x : α) (W : World), w.heap.size ≤ l → (∃ r, W.heap[l]? = some (.loop r)) → I pre W → step pre x →
      assign.wpIn (Fence.wide.inRound l) 0 P (Exit.then (fun a₁ W₁ => Keeps T cap w.heap.size W W₁ ∧ (∀ W₂, Itself T0 w.heap.size W₁ W₂ → W₂.heap.size = W₁.heap.size → (∃ r, W₂.heap[l]? = some (.loop r)) →
        (∀ k, k ≠ l → W₂.heap[k]? = W₁.heap[k]?) → body.wpIn (Fence.wide.inRound l) 0 P (bodyOf T cap w.heap.size I Ix (pre ++ [x]) W₂) a₁ W₂)) (fun _ _ _ => False))
        { tmps := (ps.zip (encs x)).foldl (fun t (p, v) => t.setIfInBounds p v) a.tmps, defers := [] } W)
    (hdone : ∀ (D : Nat) (xs : List α) (W : World), w.heap.size ≤ D → S xs → I xs W → W.heap[D]? = some (.deferred (some [])) → Q .normal { a with defers := { target := .collected D, args := #[] } :: a.defers } W)
    (hstop : ∀ (D : Nat) (c : Code) (pre : List α) (W : World), w.heap.size ≤ D → Sp pre → Ix c pre W → W.heap[D]? = some (.deferred (some [])) →
      c.wpIn Fence.wide n P Q { a with defers := { target := .collected D, args := #[] } :: a.defers } W) :
    (Code.rangeFunc g ps assign body).wpIn Fence.wide n P Q a w :=
  wpIn_rangeIterM hg eg hit.toM (fun _ h => h.elim) (fun _ _ _ _ _ _ => trivial) T hT hps hcap hcW I Ix (fun s A B h k => hI s A B h k.plain) (fun c s A B h k => hIx c s A B h k.plain) h0 hround (fun D xs W h1 h2 h3 _ h4 => hdone D xs W h1 h2 h3 h4) hstop
end Go.Proofs.YtdpmnmiimfhlhaaGreatDoor
set_option linter.unusedVariables false
set_option linter.unusedSimpArgs false
namespace Go.Proofs.YtdpmnmiimfhlhaaGreatDoor
open Go Go.RowKit
theorem wide_fnK (f : FuncId) : Fence.wide.fn f := trivial
theorem wide_depthK : Fence.wide.depth = none := rfl
attribute [local go_sem] Oper.semAt_some wide_fnK wide_depthK

theorem KT.form (x : KT) : ∃ (xk : Int) (xf xm xn xl : Nat) (xsp xkp : Option Addr) (xsc xkc : Nat) (X : ByteArray), x.val = .agg #[.int .i64 xk, .int .u8 xf, .slice xsp xm xsc, .int .u32 xn, .string X, .slice xkp xl xkc] ∧
    x.cells.toArray = #[.int .i64 xk, .int .u8 xf, .slice xsp xm xsc, .int .u32 xn, .string X, .slice xkp xl xkc] := by
  cases x; exact ⟨_, _, _, _, _, _, _, _, _, _, rfl, rfl⟩
set_option maxRecDepth 100000 in
set_option maxHeartbeats 4000000 in
theorem keys1_step (kind : Int) (flag : Nat) (set : List (Nat × Nat)) (n : Nat) (s : List UInt8) (kids : List KT) (sp : Option Addr) (scap : Nat) (kp : Option Addr) (kcap : Nat) (ih : ∀ x ∈ kids, IterK x) : IterK (.mk kind flag set n s kids sp scap kp kcap) := by
  obtain ⟨k0, hk0⟩ : ∃ k0, KT.mk kind flag set n s kids sp scap kp kcap = k0 := ⟨_, rfl⟩
  have hkids : k0.kids = kids := by rw [← hk0]; rfl
  have hval : k0.val = .agg #[.int .i64 kind, .int .u8 flag, .slice sp set.length scap, .int .u32 n, .string (txt s), .slice kp kids.length kcap] := by rw [← hk0]; rfl
  intro W0 b1 hkey
  have hkc : KidsC W0 kids kp 0 := by
    unfold KeyC at hkey
    exact hkey.2.2.2.2
  have hmax : kids.length ≤ maxLen := by
    unfold KeyC at hkey
    exact hkey.2.2.1.2.1
  rw [hk0] at hkey ⊢
  rintro l T J Jx W hcap hT hJ hJx hY h0
  have h6 := hcap.bx
  rw [← hk0] at h6
  obtain ⟨c0, c1, c2, c3, c4, c5⟩ := h6.six
  refine (callsIn_wide (n := 3)).1 ?_
  refine callsIn_of_wp_marks Tryz.func132 rfl trivial ?_
  simp only [Tryz.ntmps132, List.size_toArray, List.length_cons, List.length_nil, Nat.reduceAdd, Nat.reduceSub, Array.replicate_succ, Array.replicate_zero, List.push_toArray, List.append_toArray, List.nil_append, List.cons_append]
  refine wpIn_wide.2 ?_
  have hb5 : Below W.heap.size W (W.alloc (.cells #[.func (.yield l) #[] #[]] 46)) := (Below.refl _ _).alloc (Nat.le_refl _) _
  have H5 := Lib.hid (Boxed.new W 46 (.func (.yield l) #[] #[]))
  have hC1 := hcap.below hb5
  have HC1 := Lib.hid hC1
  have hJ1 : J [] (W.alloc (.cells #[.func (.yield l) #[] #[]] 46)) := hJ _ _ _ h0 (Itself.alloc _ _ _ (Nat.le_refl _))
  have hfst : [] ++ [k0] <+: preK k0 := by rw [preK_eq]; exact ⟨_, rfl⟩
  obtain ⟨fn, tmps, assign, body, hy, hRd⟩ := hY [] k0 _ hJ1 hfst
  have HRd := Lib.hid (RoundIn.any (m := 2) hRd)
  dsimp only at hy
  rw [hval] at hy
  have HF := Lib.hid hfst
  have HC := Lib.hid hcap
  have HJ := Lib.hid hJ
  have HX := Lib.hid hJx
  have HY := Lib.hid hY
  have HT := Lib.hid hT
  have hN9 : (kids.length : Int) ≤ 9223372036854775807 := by unfold maxLen at hmax; omega
  have HKC := Lib.hid hkc
  have HKEY := Lib.hid hkey
  have HKIDS := Lib.hid hkids
  have hlb := h6.lt
  have hH0 : W0.heap.size ≤ W.heap.size := hcap.sz
  obtain ⟨N, hN⟩ : ∃ N, kids.length = N := ⟨_, rfl⟩
  obtain ⟨M, hM⟩ : ∃ M, set.length = M := ⟨_, rfl⟩
  obtain ⟨X, hX⟩ : ∃ X, txt s = X := ⟨_, rfl⟩
  have HK0 := Lib.hid hk0
  rw [hN] at c5 hy hmax hN9
  rw [hM] at c2 hy
  rw [hX] at c4 hy
  have HN := Lib.hid hN
  have HM := Lib.hid hM
  have HXX := Lib.hid hX
  clear hcap hJ hJx hY hT hkc hkey hkids hfst hRd hN hM hX h6 hb5 hC1 hJ1 hval hk0
  go_upto_region 1 with fail
  refine (wpIn_wide (n := 3)).1 ?_
  gi_wp2_with fail
  refine HRd.out.mono ?_
  rintro e w5 ⟨hk5, (⟨rfl, hJ5⟩ | ⟨rfl, hX5⟩)⟩
  · have HC5 := Lib.hid (HC1.out.keeps hk5 (.inl rfl) (fun j hj => .inr hj))
    have HJ5 := Lib.hid hJ5
    have H5c := Lib.hid (hk5.boxed H5.out (.inr ⟨Nat.le_refl _, fun h => HT.out _ h (.inr rfl)⟩))
    have hsz5 := hk5.size
    clear hk5 hJ5 hy c0 c1 c2 c3 c4 c5
    have hbx := HC5.out.bx
    rw [← HK0.out] at hbx
    obtain ⟨c0, c1, c2, c3, c4, c5⟩ := hbx.six
    rw [HN.out] at c5
    have hlb5 := hbx.lt
    clear hbx c0 c1 c2 c3 c4
    gi_wp2_with fail
    have hJ0 : J (k0 :: preKs (k0.kids.take 0)) w5 := by rw [List.take_zero]; exact HJ5.out
    have HS0 : Hid (LoopK W0 b1 W.heap.size k0 l J 0 [] w5) := ⟨HC5.out, H5c.out, hJ0, Marks.nil _ _⟩
    clear hJ0
    go_wp2_with fail
    refine wp_loop (fun a w => ∃ (i : Nat) (ms : List Deferred) (x4 x5 x14 x15 x16 x17 x18 x19 x20 x21 x22 x23 x24 : Value), i ≤ N ∧ Hid (LoopK W0 b1 W.heap.size k0 l J i ms w) ∧ a = { tmps := #[.func (.yield l) #[] #[], .pointer (some ⟨b1, 0, none⟩), .pointer (some ⟨W.heap.size, 0, none⟩), undef, x4, x5, .func (.yield l) #[] #[],
        .agg #[.int .i64 kind, .int .u8 flag, .slice sp M scap, .int .u32 n, .string X, .slice kp N kcap], .bool true, .bool false, .pointer (some ⟨b1, 5, none⟩), .slice kp N kcap, .int .i64 N, .int .i64 i, x14, x15, x16, x17, x18, x19, x20, x21, x22, x23, x24], defers := ms }) (fun a _ => N - (intOf (a.tmps.getD 13 undef)).toNat)
      ⟨0, [], undef, undef, undef, undef, undef, undef, undef, undef, undef, undef, undef, undef, undef, Nat.zero_le _, HS0.out, rfl⟩ ?_
    clear HS0 c5 hlb5
    rintro a wr ⟨i, ms, x4, x5, x14, x15, x16, x17, x18, x19, x20, x21, x22, x23, x24, hi, HI, rfl⟩
    by_cases hlt : i < N
    · have g1 : (i : Int) < N := by omega
      have g0 : (0 : Int) ≤ i := by omega
      obtain ⟨kid, hkid⟩ : ∃ kid, kids[i]? = some kid := ⟨_, List.getElem?_eq_getElem (by have := HN.out; omega)⟩
      obtain ⟨b, off, rfl, hbb, hcs, hkk⟩ := KidsC.at kids kp 0 i kid HKC.out hkid
      have hmem : kid ∈ kids := List.mem_of_getElem? hkid
      have HIT := ih kid hmem
      obtain ⟨yk, yf, ym, yn, yl, ysp, ykp, ysc, ykc, Y, hyv, hyc⟩ := kid.form
      have hcell : ∀ (q : Nat) (u : Value), (#[.int .i64 yk, .int .u8 yf, .slice ysp ym ysc, .int .u32 yn, .string Y, .slice ykp yl ykc] : Array Value)[q]? = some u → wr.cell? ⟨b, off + i * 6 + q, none⟩ = some u := fun q u hu => by
        have h1 := hcs q u (by rw [← hyc] at hu; simpa using hu)
        rw [Nat.zero_add] at h1
        exact (World.cell?_of_block (a := ⟨b, _, none⟩) (HI.out.kc.sm b hbb)).trans h1
      have d0 : wr.cell? ⟨b, off + i * 6, none⟩ = some (.int .i64 yk) := by have := hcell 0 _ rfl; simpa using this
      have d1 := hcell 1 _ rfl
      have d2 := hcell 2 _ rfl
      have d3 := hcell 3 _ rfl
      have d4 := hcell 4 _ rfl
      have d5 := hcell 5 _ rfl
      have hbw : b < wr.heap.size := Nat.lt_of_lt_of_le hbb HI.out.kc.sz
      obtain ⟨tl, htl⟩ := segK hkid
      have HLL : Hid (preK k0 = k0 :: (preKs (k0.kids.take i) ++ preK kid ++ tl)) := by
        show _ = _
        rw [preK_eq, HKIDS.out, htl]
      have HNX : Hid (preKs (k0.kids.take (i + 1)) = preKs (k0.kids.take i) ++ preK kid) := by
        show _ = _
        rw [HKIDS.out]; exact preKs_at hkid
      have CK := fun w => keys_c kid w
      simp only [hyv] at CK
      have CK := Lib.hid CK
      have HKK := Lib.hid hkk
      have HYC := Lib.hid hyc
      clear hkid hcs hkk hmem hyv hyc hcell htl
      go_wp2_with (go_at_call 73; refine (CK.out _).mono ?_; rintro e w7 ⟨rfl, hbx7, hb7, hsz7⟩)
      rw [World.size_alloc] at hbx7 hb7 hsz7
      have hb9 : Below wr.heap.size wr w7 := ((Below.refl _ wr).alloc (Nat.le_refl _) _).trans (hb7.mono (by omega))
      have HBX := Lib.hid hbx7
      have HB7 := Lib.hid hb9
      clear hbx7 hb7 hb9 d0 d1 d2 d3 d4 d5
      have hlo : W.heap.size < wr.heap.size := lt_of_block HI.out.yb
      have HRS : Hid (RKS W0 b1 W.heap.size (wr.heap.size + 1) ms w7.heap.size) := ⟨hlb, hH0, by omega, by omega, fun j hj => ⟨by have := HI.out.mks.lt hj; omega, by
        obtain ⟨Ds, hDs, _, h2⟩ := HI.out.mks
        rw [hDs] at hj
        obtain ⟨D', hD', he⟩ := List.mem_map.1 hj
        unfold markOf at he
        cases he
        exact (h2 _ hD').1⟩⟩
      have hk7 : ∀ j, j < wr.heap.size → w7.heap[j]? = wr.heap[j]? := HB7.out.block
      have hkc7 : SKC W0 b1 k0 w7 := HI.out.kc.below HB7.out
      have HKD : Hid (SKC W0 (wr.heap.size + 1) kid w7) := ⟨HBX.out, hkc7.sz, hkc7.sm⟩
      have HRI : Hid (RK W0 b1 W.heap.size (wr.heap.size + 1) k0 kid l ms w7.heap.size w7) := ⟨hkc7, (hk7 _ (lt_of_block HI.out.yb)).trans HI.out.yb, HI.out.mks.below HB7.out, Nat.le_refl _, HKD.out⟩
      have hlo7 : W.heap.size ≤ w7.heap.size := by omega
      have hit7 : Itself skT0 W.heap.size wr w7 := ⟨HB7.out.os, HB7.out.tape, HB7.out.output, HB7.out.size, fun j hj => HB7.out.block j (by omega), fun j c e fz _ hj => (HB7.out.block j (Array.getElem?_eq_some_iff.1 hj).1).trans hj⟩
      have HJ7 : Hid (J (k0 :: (preKs (k0.kids.take i) ++ [])) w7) := by
        show J _ _
        rw [List.append_nil]
        exact HJ.out _ _ _ HI.out.jj hit7
      have hup : ∀ {A B : World}, Itself skT0 w7.heap.size A B → Itself skT0 W.heap.size A B := fun h => h.mono (fun _ h => h) hlo7
      clear hkc7 hit7
      refine (wpIn_wide (n := 3)).1 ?_
      refine wpIn_rangeIterL (gf := 132) (lb := #[.pointer (some ⟨wr.heap.size + 1, 0, none⟩)]) rfl (enters_of Tryz.func132 (by kernel_rfl) rfl) (HIT W0 (wr.heap.size + 1) HKK.out) T (fun e h => HT.out e h) (fun _ => rfl)
        (fun j hj => by
          rcases hj with rfl | hj
          · omega
          · omega)
        (fun W' hW' => HKD.out.below hW')
        (fun pre W' => J (k0 :: (preKs (k0.kids.take i) ++ pre)) W' ∧ RK W0 b1 W.heap.size (wr.heap.size + 1) k0 kid l ms w7.heap.size W')
        (fun c pre W' => c = .ret ∧ Jx (k0 :: (preKs (k0.kids.take i) ++ pre)) W' ∧ RK W0 b1 W.heap.size (wr.heap.size + 1) k0 kid l ms w7.heap.size W')
        (fun s' A B h hAB => ⟨HJ.out _ _ _ h.1 (hup hAB), h.2.itself HRS.out hAB⟩)
        (fun c s' A B h hAB => ⟨h.1, HX.out _ _ _ h.2.1 (hup hAB), h.2.2.itself HRS.out hAB⟩)
        ⟨HJ7.out, HRI.out⟩ ?round ?done ?stop
      case round =>
        rintro l' pre x W1 hl ⟨rr, hrr⟩ ⟨hj, hri⟩ hst
        have hl1 : l' < W1.heap.size := (Array.getElem?_eq_some_iff.1 hrr).1
        have hlw : w7.heap.size ≤ W1.heap.size := hri.siz
        have HRI1 := Lib.hid hri
        have HJ1 := Lib.hid hj
        have HST := Lib.hid hst
        obtain ⟨xk, xf, xm, xn, xl, xsp, xkp, xsc, xkc, Z, hxv, hxc⟩ := x.form
        have HXV := Lib.hid hxv
        have HXC := Lib.hid hxc
        clear hri hj hst hxc
        rw [hxv]
        clear hxv
        gi_wp2_with fail
        refine ⟨Keeps.alloc _ _ _ _ _, fun W2 hits hsz2 hrec hoth => ?_⟩
        have hit1 : Itself skT0 w7.heap.size W1 (W1.alloc (.cells #[.int .i64 xk, .int .u8 xf, .slice xsp xm xsc, .int .u32 xn, .string Z, .slice xkp xl xkc] 37)) := Itself.alloc _ _ _ hlw
        have hit2 := hit1.trans hits
        have HRI2 := Lib.hid (HRI1.out.itself HRS.out hit2)
        have HJ2 := Lib.hid (HJ.out _ _ _ HJ1.out (hup hit2))
        have hbn : Box6 W2 W1.heap.size x := by
          have h1 := (hoth _ (by omega)).trans (heap_alloc_new W1 (.cells #[.int .i64 xk, .int .u8 xf, .slice xsp xm xsc, .int .u32 xn, .string Z, .slice xkp xl xkc] 37))
          rw [← HXC.out] at h1
          exact h1
        have hcell : ∀ (q : Nat) (u : Value), (#[.int .i64 xk, .int .u8 xf, .slice xsp xm xsc, .int .u32 xn, .string Z, .slice xkp xl xkc] : Array Value)[q]? = some u → W2.cell? ⟨W1.heap.size, q, none⟩ = some u := fun q u hu => by
          rw [← HXC.out] at hu; exact hbn.cell (by simpa using hu)
        have d0 := hcell 0 _ rfl
        have d1 := hcell 1 _ rfl
        have d2 := hcell 2 _ rfl
        have d3 := hcell 3 _ rfl
        have d4 := hcell 4 _ rfl
        have d5 := hcell 5 _ rfl
        have l2 : W1.heap.size < W2.heap.size := hbn.lt
        have cy := HRI2.out.yb.cell
        have ly := lt_of_block HRI2.out.yb
        have hpre : (k0 :: (preKs (k0.kids.take i) ++ pre)) ++ [x] <+: preK k0 := by
          obtain ⟨t2, ht2⟩ := HST.out
          rw [HLL.out, ← ht2]
          exact ⟨t2 ++ tl, by simp⟩
        obtain ⟨fn, tmps, assign, body, hy, hR⟩ := HY.out _ x W2 HJ2.out hpre
        try dsimp only at hy
        rw [HXV.out] at hy
        have HR := Lib.hid (RoundIn.inL (m := 0) l' hR)
        clear hR hits hit1 hit2 hsz2 hrec hoth hbn hpre hcell hrr
        gi_wp2_with fail
        refine HR.out.mono ?_
        rintro e W3 ⟨hk3, (⟨rfl, hj3⟩ | ⟨rfl, hx3⟩)⟩
        · have HKP := Lib.hid (HRI2.out.inner HRS.out HT.out hk3)
          have HR3 := Lib.hid (HRI2.out.keeps HRS.out HT.out hk3)
          have HJ3 : Hid (J (k0 :: (preKs (k0.kids.take i) ++ (pre ++ [x]))) W3) := by
            show J _ _
            have h := hj3
            rw [List.cons_append, List.append_assoc] at h
            exact h
          clear hk3 hj3 hy cy d0 d1 d2 d3 d4 d5
          gi_wp2_with fail
          exact ⟨HKP.out, HJ3.out, HR3.out⟩
        · have HKP := Lib.hid (HRI2.out.inner HRS.out HT.out hk3)
          have HR3 := Lib.hid (HRI2.out.keeps HRS.out HT.out hk3)
          have HX3 : Hid (Jx (k0 :: (preKs (k0.kids.take i) ++ (pre ++ [x]))) W3) := by
            show Jx _ _
            have h := hx3
            rw [List.cons_append, List.append_assoc] at h
            exact h
          clear hk3 hx3 hy cy d0 d1 d2 d3 d4 d5
          gi_wp2_with fail
          exact ⟨HKP.out, rfl, HX3.out, HR3.out⟩
      case done =>
        rintro D' xs W1 hD hxs ⟨hj, hri⟩ hK
        have hLI : LoopK W0 b1 W.heap.size k0 l J (i + 1) (markOf D' :: ms) W1 := by
          refine ⟨hri.kc, hri.yb, ?_, hri.mks.cons (by omega) hK (fun d hd he => ?_)⟩
          · rw [HNX.out, ← hxs]; exact hj
          · rw [he] at hd
            have := (HRS.out.ak D' hd).1
            omega
        have HLI := Lib.hid hLI
        clear hLI hj hri hK hxs
        go_wp2_with fail
        refine ⟨⟨i + 1, markOf D' :: ms, _, _, _, _, _, _, _, _, _, _, _, _, _, by omega, HLI, rfl⟩, ?_⟩
        simp [intOf]
        omega
      case stop =>
        rintro D' c pre W1 hD hpre ⟨rfl, hx, hri⟩ hK
        have HMK := Lib.hid (hri.mks.cons (D := D') (by omega) hK (fun d hd he => by
          rw [he] at hd
          have := (HRS.out.ak D' hd).1
          omega))
        have HXX := Lib.hid hx
        have hpre2 : (k0 :: (preKs (k0.kids.take i) ++ pre)) <+: preK k0 := by
          obtain ⟨t2, ht2⟩ := hpre
          rw [HLL.out, ← ht2]
          exact ⟨t2 ++ tl, by simp⟩
        have HPR := Lib.hid hpre2
        clear hx hri hK hpre hpre2
        gi_wp2_with fail
        refine HMK.out.leaves (fun W' hW' => ?_)
        exact ⟨_, results_none rfl _ _ _, ⟨_, rfl⟩, .inr ⟨_, HPR.out, HX.out _ _ _ HXX.out (hW'.mono (fun _ h => h.elim) (Nat.le_refl _))⟩⟩
    · obtain rfl : i = N := by omega
      have g3 : ¬ (i : Int) < i := by omega
      go_wp2_with fail
      refine HI.out.mks.leaves (fun W' hW' => ?_)
      refine ⟨_, results_none rfl _ _ _, ⟨_, rfl⟩, .inl ?_⟩
      have h := HJ.out _ _ _ HI.out.jj (hW'.mono (fun _ h => h.elim) (Nat.le_refl _))
      rw [HKIDS.out, List.take_of_length_le (by rw [HN.out]; exact Nat.le_refl _), ← HKIDS.out] at h
      rw [preK_eq]
      exact h
  · have HX5 := Lib.hid hX5
    clear hk5 hX5 hy
    gi_wp2_with fail
    go_wp2_with fail
    exact ⟨_, results_none rfl _ _ _, ⟨_, rfl⟩, .inr ⟨_, HF.out, HX5.out⟩⟩
theorem keys1_iter (k : KT) : IterK k := KT.ind (P := IterK) keys1_step k
end Go.Proofs.YtdpmnmiimfhlhaaGreatDoor
set_option linter.unusedVariables false
set_option linter.unusedSimpArgs false
namespace Go.Proofs.YtdpmnmiimfhlhaaGreatDoor
open Go Go.RowKit

theorem kid_cells {W : World} {kids : List KT} {kp : Option Addr} (hk : KidsC W kids kp 0) {i : Nat} {x : KT} (hx : kids[i]? = some x) :
    ∃ (b off : Nat), kp = some ⟨b, off, none⟩ ∧ b < W.heap.size ∧ KeyC W x ∧ ∀ (q : Nat) (u : Value), x.cells[q]? = some u → W.cell? ⟨b, off + i * 6 + q, none⟩ = some u := by
  obtain ⟨b, off, h1, h2, h3, h4⟩ := KidsC.at kids kp 0 i x hk hx
  exact ⟨b, off, h1, h2, h4, fun q u hu => by have := h3 q u hu; rwa [Nat.zero_add] at this⟩
theorem take_atS {α : Type} {l : List α} {k : Nat} {r : α} (h : l[k]? = some r) : l.take (k + 1) = l.take k ++ [r] := by
  obtain ⟨hk, rfl⟩ := List.getElem?_eq_some_iff.1 h
  exact List.take_succ_eq_append_getElem hk

set_option maxRecDepth 100000 in
set_option maxHeartbeats 2000000 in
theorem sIndexF_sWithin1_c {W : World} {kids : List KT} {kp : Option Addr} {kcap : Nat} (P1 : Option Addr) (p : KT → Bool) (hk : KidsC W kids kp 0) (hm : kids.length ≤ maxLen)
    (hF : ∀ x ∈ kids, ∀ W', Below W.heap.size W W' → Calls Tryz.prog 118 #[x.val, .pointer P1] W' fun e w' => e = .returned (.bool (p x)) ∧ Below W'.heap.size W' w') :
    Calls Tryz.prog 175 #[.slice kp kids.length kcap, .func (.func 118) #[] #[.pointer P1]] W fun e w' => ∃ z : Int, e = .returned (.int .i64 z) ∧ (0 ≤ z ↔ kids.any p = true) ∧ Below W.heap.size W w' := by
  have HF := Lib.hid hF
  have HK := Lib.hid hk
  have hN9 : (kids.length : Int) ≤ 9223372036854775807 := by unfold maxLen at hm; omega
  obtain ⟨N, hN⟩ : ∃ N, kids.length = N := ⟨_, rfl⟩
  rw [hN] at hN9 ⊢
  have HN := Lib.hid hN
  clear hF hk hN hm
  go_enter Tryz.func175, Tryz.ntmps175
  go_wp2_with fail
  go_loopw [8] (fun iv wr => ∃ i : Nat, i ≤ N ∧ iv = .int .i64 i ∧ Hid ((kids.take i).any p = false) ∧ Hid (Below W.heap.size W wr)) (fun iv _ => N - (intOf iv).toNat)
  case atStart => exact ⟨0, Nat.zero_le _, rfl, rfl, Below.refl _ _⟩
  case round =>
    obtain ⟨i, hi, rfl, HA, HB⟩ := hrel
    by_cases hlt : i < N
    · have g1 : (i : Int) < N := by omega
      have g0 : (0 : Int) ≤ i := by omega
      obtain ⟨x, hx⟩ : ∃ x, kids[i]? = some x := ⟨_, List.getElem?_eq_getElem (by have := HN.out; omega)⟩
      obtain ⟨b, off, rfl, hbb, hkx, hcs⟩ := kid_cells HK.out hx
      have CF := HF.out x (List.mem_of_getElem? hx) wr HB.out
      obtain ⟨yk, yf, ym, yn, yl, ysp, ykp, ysc, ykc, Y, hyv, hyc⟩ := x.form
      have hcell : ∀ (q : Nat) (u : Value), (#[.int .i64 yk, .int .u8 yf, .slice ysp ym ysc, .int .u32 yn, .string Y, .slice ykp yl ykc] : Array Value)[q]? = some u → wr.cell? ⟨b, off + i * 6 + q, none⟩ = some u := fun q u hu => by
        have h1 := hcs q u (by rw [← hyc] at hu; simpa using hu)
        exact (HB.out.cell (p := ⟨b, _, none⟩) hbb).trans h1
      have d0 : wr.cell? ⟨b, off + i * 6, none⟩ = some (.int .i64 yk) := by have := hcell 0 _ rfl; simpa using this
      have d1 := hcell 1 _ rfl
      have d2 := hcell 2 _ rfl
      have d3 := hcell 3 _ rfl
      have d4 := hcell 4 _ rfl
      have d5 := hcell 5 _ rfl
      have hbw : b < wr.heap.size := Nat.lt_of_lt_of_le hbb HB.out.size
      have HT : Hid ((kids.take (i + 1)).any p = ((kids.take i).any p || p x)) := by
        show _ = _
        rw [take_atS hx, List.any_append]; simp
      have HX := Lib.hid hx
      rw [hyv] at CF
      obtain ⟨pv, hpv⟩ : ∃ pv, p x = pv := ⟨_, rfl⟩
      rw [hpv] at CF HT
      have CF := Lib.hid CF
      have HPV := Lib.hid hpv
      clear hx hcs hyv hyc hcell hpv hkx
      cases pv with
      | true =>
        go_wp2_with fail
        refine CF.out.mono ?_
        rintro e w5 ⟨rfl, hb5⟩
        have HB5 := Lib.hid (HB.out.trans (hb5.mono HB.out.size))
        clear hb5
        go_wp2_with fail
        go_ret
        refine ⟨i, rfl, ⟨fun _ => ?_, fun _ => by omega⟩, HB5.out⟩
        rw [List.any_eq_true]
        exact ⟨x, List.mem_of_getElem? HX.out, HPV.out⟩
      | false =>
        rw [HA.out] at HT
        go_wp2_with fail
        refine CF.out.mono ?_
        rintro e w5 ⟨rfl, hb5⟩
        have HB5 := Lib.hid (HB.out.trans (hb5.mono HB.out.size))
        clear hb5
        go_wp2_with fail
        go_roundw
        case rel => exact ⟨i + 1, by omega, by go_num, HT.out, HB5.out⟩
        case measure => simp [intOf]; omega
    · obtain rfl : i = N := by omega
      go_wp2_with fail
      go_ret
      refine ⟨-1, rfl, ⟨fun h => by omega, fun h => ?_⟩, HB.out⟩
      have h2 := HA.out
      rw [List.take_of_length_le (by rw [HN.out]; exact Nat.le_refl _), h] at h2
      cases h2
set_option maxRecDepth 100000 in
theorem sContainsF_sWithin1_c {W : World} {kids : List KT} {kp : Option Addr} {kcap : Nat} (P1 : Option Addr) (p : KT → Bool) (hk : KidsC W kids kp 0) (hm : kids.length ≤ maxLen)
    (hF : ∀ x ∈ kids, ∀ W', Below W.heap.size W W' → Calls Tryz.prog 118 #[x.val, .pointer P1] W' fun e w' => e = .returned (.bool (p x)) ∧ Below W'.heap.size W' w') :
    Calls Tryz.prog 119 #[.slice kp kids.length kcap, .func (.func 118) #[] #[.pointer P1]] W fun e w' => e = .returned (.bool (kids.any p)) ∧ Below W.heap.size W w' := by
  have C := Lib.hid (sIndexF_sWithin1_c (kcap := kcap) P1 p hk hm hF)
  obtain ⟨N, hN⟩ : ∃ N, kids.length = N := ⟨_, rfl⟩
  obtain ⟨pv, hpv⟩ : ∃ pv, kids.any p = pv := ⟨_, rfl⟩
  rw [hN, hpv] at C
  rw [hN, hpv]
  clear hk hm hF hN hpv
  go_enter Tryz.func119, Tryz.ntmps119
  go_wp2_with fail
  refine C.out.mono ?_
  rintro e w5 ⟨z, rfl, hz, hb⟩
  have HB := Lib.hid hb
  clear hb
  by_cases h0 : 0 ≤ z
  · obtain rfl := hz.1 h0
    clear hz
    go_wp2_with fail
    go_ret
    exact ⟨by simp [h0], HB.out⟩
  · have : pv = false := by cases pv; rfl; exact absurd (hz.2 rfl) h0
    subst this
    clear hz
    go_wp2_with fail
    go_ret
    exact ⟨by simp [h0], HB.out⟩

set_option maxRecDepth 100000 in
set_option maxHeartbeats 2000000 in
theorem sIndexF_sMatches1_c {W : World} {kids : List KT} {kp : Option Addr} {kcap : Nat} (P1 P2 : Option Addr) (p : KT → Bool) (hk : KidsC W kids kp 0) (hm : kids.length ≤ maxLen)
    (hF : ∀ x ∈ kids, ∀ W', Below W.heap.size W W' → Calls Tryz.prog 124 #[x.val, .pointer P1, .pointer P2] W' fun e w' => e = .returned (.bool (p x)) ∧ Below W'.heap.size W' w') :
    Calls Tryz.prog 175 #[.slice kp kids.length kcap, .func (.func 124) #[] #[.pointer P1, .pointer P2]] W fun e w' => ∃ z : Int, e = .returned (.int .i64 z) ∧ (0 ≤ z ↔ kids.any p = true) ∧ Below W.heap.size W w' := by
  have HF := Lib.hid hF
  have HK := Lib.hid hk
  have hN9 : (kids.length : Int) ≤ 9223372036854775807 := by unfold maxLen at hm; omega
  obtain ⟨N, hN⟩ : ∃ N, kids.length = N := ⟨_, rfl⟩
  rw [hN] at hN9 ⊢
  have HN := Lib.hid hN
  clear hF hk hN hm
  go_enter Tryz.func175, Tryz.ntmps175
  go_wp2_with fail
  go_loopw [8] (fun iv wr => ∃ i : Nat, i ≤ N ∧ iv = .int .i64 i ∧ Hid ((kids.take i).any p = false) ∧ Hid (Below W.heap.size W wr)) (fun iv _ => N - (intOf iv).toNat)
  case atStart => exact ⟨0, Nat.zero_le _, rfl, rfl, Below.refl _ _⟩
  case round =>
    obtain ⟨i, hi, rfl, HA, HB⟩ := hrel
    by_cases hlt : i < N
    · have g1 : (i : Int) < N := by omega
      have g0 : (0 : Int) ≤ i := by omega
      obtain ⟨x, hx⟩ : ∃ x, kids[i]? = some x := ⟨_, List.getElem?_eq_getElem (by have := HN.out; omega)⟩
      obtain ⟨b, off, rfl, hbb, hkx, hcs⟩ := kid_cells HK.out hx
      have CF := HF.out x (List.mem_of_getElem? hx) wr HB.out
      obtain ⟨yk, yf, ym, yn, yl, ysp, ykp, ysc, ykc, Y, hyv, hyc⟩ := x.form
      have hcell : ∀ (q : Nat) (u : Value), (#[.int .i64 yk, .int .u8 yf, .slice ysp ym ysc, .int .u32 yn, .string Y, .slice ykp yl ykc] : Array Value)[q]? = some u → wr.cell? ⟨b, off + i * 6 + q, none⟩ = some u := fun q u hu => by
        have h1 := hcs q u (by rw [← hyc] at hu; simpa using hu)
        exact (HB.out.cell (p := ⟨b, _, none⟩) hbb).trans h1
      have d0 : wr.cell? ⟨b, off + i * 6, none⟩ = some (.int .i64 yk) := by have := hcell 0 _ rfl; simpa using this
      have d1 := hcell 1 _ rfl
      have d2 := hcell 2 _ rfl
      have d3 := hcell 3 _ rfl
      have d4 := hcell 4 _ rfl
      have d5 := hcell 5 _ rfl
      have hbw : b < wr.heap.size := Nat.lt_of_lt_of_le hbb HB.out.size
      have HT : Hid ((kids.take (i + 1)).any p = ((kids.take i).any p || p x)) := by
        show _ = _
        rw [take_atS hx, List.any_append]; simp
      have HX := Lib.hid hx
      rw [hyv] at CF
      obtain ⟨pv, hpv⟩ : ∃ pv, p x = pv := ⟨_, rfl⟩
      rw [hpv] at CF HT
      have CF := Lib.hid CF
      have HPV := Lib.hid hpv
      clear hx hcs hyv hyc hcell hpv hkx
      cases pv with
      | true =>
        go_wp2_with fail
        refine CF.out.mono ?_
        rintro e w5 ⟨rfl, hb5⟩
        have HB5 := Lib.hid (HB.out.trans (hb5.mono HB.out.size))
        clear hb5
        go_wp2_with fail
        go_ret
        refine ⟨i, rfl, ⟨fun _ => ?_, fun _ => by omega⟩, HB5.out⟩
        rw [List.any_eq_true]
        exact ⟨x, List.mem_of_getElem? HX.out, HPV.out⟩
      | false =>
        rw [HA.out] at HT
        go_wp2_with fail
        refine CF.out.mono ?_
        rintro e w5 ⟨rfl, hb5⟩
        have HB5 := Lib.hid (HB.out.trans (hb5.mono HB.out.size))
        clear hb5
        go_wp2_with fail
        go_roundw
        case rel => exact ⟨i + 1, by omega, by go_num, HT.out, HB5.out⟩
        case measure => simp [intOf]; omega
    · obtain rfl : i = N := by omega
      go_wp2_with fail
      go_ret
      refine ⟨-1, rfl, ⟨fun h => by omega, fun h => ?_⟩, HB.out⟩
      have h2 := HA.out
      rw [List.take_of_length_le (by rw [HN.out]; exact Nat.le_refl _), h] at h2
      cases h2
set_option maxRecDepth 100000 in
theorem sContainsF_sMatches1_c {W : World} {kids : List KT} {kp : Option Addr} {kcap : Nat} (P1 P2 : Option Addr) (p : KT → Bool) (hk : KidsC W kids kp 0) (hm : kids.length ≤ maxLen)
    (hF : ∀ x ∈ kids, ∀ W', Below W.heap.size W W' → Calls Tryz.prog 124 #[x.val, .pointer P1, .pointer P2] W' fun e w' => e = .returned (.bool (p x)) ∧ Below W'.heap.size W' w') :
    Calls Tryz.prog 119 #[.slice kp kids.length kcap, .func (.func 124) #[] #[.pointer P1, .pointer P2]] W fun e w' => e = .returned (.bool (kids.any p)) ∧ Below W.heap.size W w' := by
  have C := Lib.hid (sIndexF_sMatches1_c (kcap := kcap) P1 P2 p hk hm hF)
  obtain ⟨N, hN⟩ : ∃ N, kids.length = N := ⟨_, rfl⟩
  obtain ⟨pv, hpv⟩ : ∃ pv, kids.any p = pv := ⟨_, rfl⟩
  rw [hN, hpv] at C
  rw [hN, hpv]
  clear hk hm hF hN hpv
  go_enter Tryz.func119, Tryz.ntmps119
  go_wp2_with fail
  refine C.out.mono ?_
  rintro e w5 ⟨z, rfl, hz, hb⟩
  have HB := Lib.hid hb
  clear hb
  by_cases h0 : 0 ≤ z
  · obtain rfl := hz.1 h0
    clear hz
    go_wp2_with fail
    go_ret
    exact ⟨by simp [h0], HB.out⟩
  · have : pv = false := by cases pv; rfl; exact absurd (hz.2 rfl) h0
    subst this
    clear hz
    go_wp2_with fail
    go_ret
    exact ⟨by simp [h0], HB.out⟩

set_option maxRecDepth 100000 in
set_option maxHeartbeats 2000000 in
theorem sIndexF_sMatches2_c {W : World} {kids : List KT} {kp : Option Addr} {kcap : Nat} (P1 : Option Addr) (p : KT → Bool) (hk : KidsC W kids kp 0) (hm : kids.length ≤ maxLen)
    (hF : ∀ x ∈ kids, ∀ W', Below W.heap.size W W' → Calls Tryz.prog 125 #[x.val, .pointer P1] W' fun e w' => e = .returned (.bool (p x)) ∧ Below W'.heap.size W' w') :
    Calls Tryz.prog 175 #[.slice kp kids.length kcap, .func (.func 125) #[] #[.pointer P1]] W fun e w' => ∃ z : Int, e = .returned (.int .i64 z) ∧ (0 ≤ z ↔ kids.any p = true) ∧ Below W.heap.size W w' := by
  have HF := Lib.hid hF
  have HK := Lib.hid hk
  have hN9 : (kids.length : Int) ≤ 9223372036854775807 := by unfold maxLen at hm; omega
  obtain ⟨N, hN⟩ : ∃ N, kids.length = N := ⟨_, rfl⟩
  rw [hN] at hN9 ⊢
  have HN := Lib.hid hN
  clear hF hk hN hm
  go_enter Tryz.func175, Tryz.ntmps175
  go_wp2_with fail
  go_loopw [8] (fun iv wr => ∃ i : Nat, i ≤ N ∧ iv = .int .i64 i ∧ Hid ((kids.take i).any p = false) ∧ Hid (Below W.heap.size W wr)) (fun iv _ => N - (intOf iv).toNat)
  case atStart => exact ⟨0, Nat.zero_le _, rfl, rfl, Below.refl _ _⟩
  case round =>
    obtain ⟨i, hi, rfl, HA, HB⟩ := hrel
    by_cases hlt : i < N
    · have g1 : (i : Int) < N := by omega
      have g0 : (0 : Int) ≤ i := by omega
      obtain ⟨x, hx⟩ : ∃ x, kids[i]? = some x := ⟨_, List.getElem?_eq_getElem (by have := HN.out; omega)⟩
      obtain ⟨b, off, rfl, hbb, hkx, hcs⟩ := kid_cells HK.out hx
      have CF := HF.out x (List.mem_of_getElem? hx) wr HB.out
      obtain ⟨yk, yf, ym, yn, yl, ysp, ykp, ysc, ykc, Y, hyv, hyc⟩ := x.form
      have hcell : ∀ (q : Nat) (u : Value), (#[.int .i64 yk, .int .u8 yf, .slice ysp ym ysc, .int .u32 yn, .string Y, .slice ykp yl ykc] : Array Value)[q]? = some u → wr.cell? ⟨b, off + i * 6 + q, none⟩ = some u := fun q u hu => by
        have h1 := hcs q u (by rw [← hyc] at hu; simpa using hu)
        exact (HB.out.cell (p := ⟨b, _, none⟩) hbb).trans h1
      have d0 : wr.cell? ⟨b, off + i * 6, none⟩ = some (.int .i64 yk) := by have := hcell 0 _ rfl; simpa using this
      have d1 := hcell 1 _ rfl
      have d2 := hcell 2 _ rfl
      have d3 := hcell 3 _ rfl
      have d4 := hcell 4 _ rfl
      have d5 := hcell 5 _ rfl
      have hbw : b < wr.heap.size := Nat.lt_of_lt_of_le hbb HB.out.size
      have HT : Hid ((kids.take (i + 1)).any p = ((kids.take i).any p || p x)) := by
        show _ = _
        rw [take_atS hx, List.any_append]; simp
      have HX := Lib.hid hx
      rw [hyv] at CF
      obtain ⟨pv, hpv⟩ : ∃ pv, p x = pv := ⟨_, rfl⟩
      rw [hpv] at CF HT
      have CF := Lib.hid CF
      have HPV := Lib.hid hpv
      clear hx hcs hyv hyc hcell hpv hkx
      cases pv with
      | true =>
        go_wp2_with fail
        refine CF.out.mono ?_
        rintro e w5 ⟨rfl, hb5⟩
        have HB5 := Lib.hid (HB.out.trans (hb5.mono HB.out.size))
        clear hb5
        go_wp2_with fail
        go_ret
        refine ⟨i, rfl, ⟨fun _ => ?_, fun _ => by omega⟩, HB5.out⟩
        rw [List.any_eq_true]
        exact ⟨x, List.mem_of_getElem? HX.out, HPV.out⟩
      | false =>
        rw [HA.out] at HT
        go_wp2_with fail
        refine CF.out.mono ?_
        rintro e w5 ⟨rfl, hb5⟩
        have HB5 := Lib.hid (HB.out.trans (hb5.mono HB.out.size))
        clear hb5
        go_wp2_with fail
        go_roundw
        case rel => exact ⟨i + 1, by omega, by go_num, HT.out, HB5.out⟩
        case measure => simp [intOf]; omega
    · obtain rfl : i = N := by omega
      go_wp2_with fail
      go_ret
      refine ⟨-1, rfl, ⟨fun h => by omega, fun h => ?_⟩, HB.out⟩
      have h2 := HA.out
      rw [List.take_of_length_le (by rw [HN.out]; exact Nat.le_refl _), h] at h2
      cases h2
set_option maxRecDepth 100000 in
theorem sContainsF_sMatches2_c {W : World} {kids : List KT} {kp : Option Addr} {kcap : Nat} (P1 : Option Addr) (p : KT → Bool) (hk : KidsC W kids kp 0) (hm : kids.length ≤ maxLen)
    (hF : ∀ x ∈ kids, ∀ W', Below W.heap.size W W' → Calls Tryz.prog 125 #[x.val, .pointer P1] W' fun e w' => e = .returned (.bool (p x)) ∧ Below W'.heap.size W' w') :
    Calls Tryz.prog 119 #[.slice kp kids.length kcap, .func (.func 125) #[] #[.pointer P1]] W fun e w' => e = .returned (.bool (kids.any p)) ∧ Below W.heap.size W w' := by
  have C := Lib.hid (sIndexF_sMatches2_c (kcap := kcap) P1 p hk hm hF)
  obtain ⟨N, hN⟩ : ∃ N, kids.length = N := ⟨_, rfl⟩
  obtain ⟨pv, hpv⟩ : ∃ pv, kids.any p = pv := ⟨_, rfl⟩
  rw [hN, hpv] at C
  rw [hN, hpv]
  clear hk hm hF hN hpv
  go_enter Tryz.func119, Tryz.ntmps119
  go_wp2_with fail
  refine C.out.mono ?_
  rintro e w5 ⟨z, rfl, hz, hb⟩
  have HB := Lib.hid hb
  clear hb
  by_cases h0 : 0 ≤ z
  · obtain rfl := hz.1 h0
    clear hz
    go_wp2_with fail
    go_ret
    exact ⟨by simp [h0], HB.out⟩
  · have : pv = false := by cases pv; rfl; exact absurd (hz.2 rfl) h0
    subst this
    clear hz
    go_wp2_with fail
    go_ret
    exact ⟨by simp [h0], HB.out⟩
end Go.Proofs.YtdpmnmiimfhlhaaGreatDoor
set_option linter.unusedVariables false
set_option linter.unusedSimpArgs false
namespace Go.Proofs.YtdpmnmiimfhlhaaGreatDoor
open Go Go.RowKit
mutual
def sameK : KT → KT → Bool
  | .mk kd fl set n s kids _ _ _ _, .mk kd' fl' set' n' s' kids' _ _ _ _ => (kd == kd') && ((fl == fl') && ((n == n') && ((s == s') && ((set == set') && sameL kids kids'))))
def sameL : List KT → List KT → Bool
  | [], [] => true
  | a :: r, b :: r' => sameK a b && sameL r r'
  | [], _ :: _ => false
  | _ :: _, [] => false
end
theorem sameL_len : ∀ {l l' : List KT}, sameL l l' = true → l.length = l'.length
  | [], [], _ => rfl
  | a :: r, b :: r', h => by
    unfold sameL at h
    rw [Bool.and_eq_true] at h
    rw [List.length_cons, List.length_cons, sameL_len h.2]
  | [], _ :: _, h => by unfold sameL at h; cases h
  | _ :: _, [], h => by unfold sameL at h; cases h
theorem sameL_at : ∀ {l l' : List KT} {j : Nat} {a b : KT}, sameL l l' = true → l[j]? = some a → l'[j]? = some b → sameK a b = true
  | x :: r, y :: r', 0, a, b, h, ha, hb => by
    unfold sameL at h
    rw [Bool.and_eq_true] at h
    simp at ha hb
    subst ha; subst hb
    exact h.1
  | x :: r, y :: r', j + 1, a, b, h, ha, hb => by
    unfold sameL at h
    rw [Bool.and_eq_true] at h
    exact sameL_at h.2 (by simpa using ha) (by simpa using hb)
  | [], _, j, a, b, h, ha, hb => by simp at ha
  | _ :: _, [], j, a, b, h, ha, hb => by simp at hb
theorem sameL_all : ∀ {l l' : List KT}, l.length = l'.length → (∀ (j : Nat) (a b : KT), l[j]? = some a → l'[j]? = some b → sameK a b = true) → sameL l l' = true
  | [], [], _, _ => by unfold sameL; rfl
  | x :: r, y :: r', hl, h => by
    unfold sameL
    rw [h 0 x y rfl rfl, sameL_all (l := r) (l' := r') (by simpa using hl) fun j a b ha hb => h (j + 1) a b (by simpa using ha) (by simpa using hb)]
    rfl
  | [], _ :: _, hl, _ => by simp at hl
  | _ :: _, [], hl, _ => by simp at hl
theorem neq_range (a b c d : Nat) (w : World) : (binOp .neq 115 (.agg #[.int .u32 a, .int .u32 b]) (.agg #[.int .u32 c, .int .u32 d])).run Tryz.prog w = .ok (.bool (!(((a, b) : Nat × Nat) == (c, d)))) w := by
  go_simp
  by_cases h1 : a = c
  · subst h1
    by_cases h2 : b = d
    · subst h2; simp
    · have : ¬ ((b : Int) = d) := by omega
      simp [this, h2]
  · have : ¬ ((a : Int) = c) := by omega
    simp [this, h1]
theorem neq_guard (x y : Operand) (xs ys : Array Value) (w : World) : (eqGuard .neq 115 x y (.agg xs) (.agg ys)).run Tryz.prog w = .ok () w := run_eqGuard_agg w _ _ _ _ _ _ (by kernel_rfl)
/-- Two boxes of six cells, behind whatever else was made. -/
theorem twelve_cells {W w : World} {t : TypeId} {a0 a1 a2 a3 a4 a5 b0 b1 b2 b3 b4 b5 : Value}
    (hb : Below (W.heap.size + 2) ((W.alloc (.cells #[a0, a1, a2, a3, a4, a5] t)).alloc (.cells #[b0, b1, b2, b3, b4, b5] t)) w) :
    (w.cell? ⟨W.heap.size, 0, none⟩ = some a0 ∧ w.cell? ⟨W.heap.size, 1, none⟩ = some a1 ∧ w.cell? ⟨W.heap.size, 2, none⟩ = some a2 ∧ w.cell? ⟨W.heap.size, 3, none⟩ = some a3 ∧ w.cell? ⟨W.heap.size, 4, none⟩ = some a4 ∧ w.cell? ⟨W.heap.size, 5, none⟩ = some a5) ∧
    (w.cell? ⟨W.heap.size + 1, 0, none⟩ = some b0 ∧ w.cell? ⟨W.heap.size + 1, 1, none⟩ = some b1 ∧ w.cell? ⟨W.heap.size + 1, 2, none⟩ = some b2 ∧ w.cell? ⟨W.heap.size + 1, 3, none⟩ = some b3 ∧ w.cell? ⟨W.heap.size + 1, 4, none⟩ = some b4 ∧ w.cell? ⟨W.heap.size + 1, 5, none⟩ = some b5) := by
  have h1 : w.heap[W.heap.size]? = some (.cells #[a0, a1, a2, a3, a4, a5] t (0, 0)) := by
    rw [hb.block _ (by omega)]
    have := heap_alloc_new W (.cells #[a0, a1, a2, a3, a4, a5] t)
    exact (((Below.refl _ (W.alloc (.cells #[a0, a1, a2, a3, a4, a5] t))).alloc (Nat.le_refl _) (.cells #[b0, b1, b2, b3, b4, b5] t)).block _ (by simp)).trans this
  have h2 : w.heap[W.heap.size + 1]? = some (.cells #[b0, b1, b2, b3, b4, b5] t (0, 0)) := by
    rw [hb.block _ (by omega)]
    have := heap_alloc_new (W.alloc (.cells #[a0, a1, a2, a3, a4, a5] t)) (.cells #[b0, b1, b2, b3, b4, b5] t)
    rw [World.size_alloc] at this
    exact this
  refine ⟨⟨?_, ?_, ?_, ?_, ?_, ?_⟩, ?_, ?_, ?_, ?_, ?_, ?_⟩
  all_goals (unfold World.cell?; first | (rw [h1]; rfl) | (rw [h2]; rfl))
set_option maxRecDepth 100000 in
set_option maxHeartbeats 8000000 in
theorem rsame_c (a : KT) : ∀ (b : KT) (W : World), KeyC W a → KeyC W b → Calls Tryz.prog 19 #[a.val, b.val] W fun e w' => e = .returned (.bool (sameK a b)) ∧ Below W.heap.size W w' := by
  induction a using KT.ind with
  | h kd fl set n s kids sp scap kp kcap ih =>
    intro b W hA hB
    obtain ⟨kd', fl', set', n', s', kids', sp', scap', kp', kcap'⟩ := b
    have IH := Lib.hid ih
    unfold KeyC at hA hB
    obtain ⟨_, _, ⟨hs1, hk1, _⟩, hset, hkids⟩ := hA
    obtain ⟨_, _, ⟨hs2, hk2, _⟩, hset', hkids'⟩ := hB
    unfold maxLen at hs1 hk1
    show Calls Tryz.prog 19 #[.agg #[.int .i64 kd, .int .u8 fl, .slice sp set.length scap, .int .u32 n, .string (txt s), .slice kp kids.length kcap], .agg #[.int .i64 kd', .int .u8 fl', .slice sp' set'.length scap', .int .u32 n', .string (txt s'), .slice kp' kids'.length kcap']] W _
    have hS : sameK (.mk kd fl set n s kids sp scap kp kcap) (.mk kd' fl' set' n' s' kids' sp' scap' kp' kcap') = ((kd == kd') && ((fl == fl') && ((n == n') && ((s == s') && ((set == set') && sameL kids kids'))))) := by rw [sameK]
    obtain ⟨Z, hZ⟩ : ∃ Z, sameK (.mk kd fl set n s kids sp scap kp kcap) (.mk kd' fl' set' n' s' kids' sp' scap' kp' kcap') = Z := ⟨_, rfl⟩
    rw [hZ] at hS ⊢
    have HA := Lib.hid hset
    have HA' := Lib.hid hset'
    have HK := Lib.hid hkids
    have HK' := Lib.hid hkids'
    have eX : ((txt s).toList == (txt s').toList) = (s == s') := by rw [Lib.toList_data, Lib.toList_data]; simp [txt]
    obtain ⟨X, hX⟩ : ∃ X, txt s = X := ⟨_, rfl⟩
    obtain ⟨X', hX'⟩ : ∃ X, txt s' = X := ⟨_, rfl⟩
    obtain ⟨M, hM⟩ : ∃ M, set.length = M := ⟨_, rfl⟩
    obtain ⟨M', hM'⟩ : ∃ M, set'.length = M := ⟨_, rfl⟩
    obtain ⟨N, hN⟩ : ∃ N, kids.length = N := ⟨_, rfl⟩
    obtain ⟨N', hN'⟩ : ∃ N, kids'.length = N := ⟨_, rfl⟩
    rw [hX, hX'] at eX ⊢
    rw [hM] at hs1 ⊢
    rw [hM', hN'] 
    rw [hN] at hk1 ⊢
    have HM := Lib.hid hM
    have HM' := Lib.hid hM'
    have HN := Lib.hid hN
    have HN' := Lib.hid hN'
    obtain ⟨w0, hw0⟩ : ∃ w0, (W.alloc (.cells #[.int .i64 kd, .int .u8 fl, .slice sp M scap, .int .u32 n, .string X, .slice kp N kcap] 26)).alloc (.cells #[.int .i64 kd', .int .u8 fl', .slice sp' M' scap', .int .u32 n', .string X', .slice kp' N' kcap'] 26) = w0 := ⟨_, rfl⟩
    have HB0 : Hid (Below W.heap.size W w0) := by
      show Below _ _ _
      rw [← hw0]; exact ((Below.refl _ _).alloc (Nat.le_refl _) _).alloc (by simp) _
    have hsz : w0.heap.size = W.heap.size + 2 := by rw [← hw0]; simp
    have H12 := fun w (hb : Below w0.heap.size w0 w) => twelve_cells (W := W) (w := w) (t := 26) (a0 := .int .i64 kd) (a1 := .int .u8 fl) (a2 := .slice sp M scap) (a3 := .int .u32 n) (a4 := .string X) (a5 := .slice kp N kcap) (b0 := .int .i64 kd') (b1 := .int .u8 fl') (b2 := .slice sp' M' scap') (b3 := .int .u32 n') (b4 := .string X') (b5 := .slice kp' N' kcap') (by rw [hw0, ← hsz]; exact hb)
    have H12 := Lib.hid H12
    have HW0 := Lib.hid hw0
    clear ih hset hset' hkids hkids' hZ hX hX' hM hM' hN hN' hw0 hs2 hk2
    obtain ⟨⟨c0, c1, c2, c3, c4, c5⟩, d0, d1, d2, d3, d4, d5⟩ := H12.out w0 (Below.refl _ _)
    have nb : ∀ a b : Nat, ((a : Int) != (b : Int)) = !(a == b) := fun a b => by
      by_cases h : a = b
      · subst h; simp
      · have h2 : ((a : Int) != b) = true := by rw [bne_iff_ne]; omega
        have h3 : (a == b) = false := by rw [beq_eq_false_iff_ne]; exact h
        rw [h2, h3]; rfl
    obtain ⟨v1, e1⟩ : ∃ v, (kd == kd') = v := ⟨_, rfl⟩
    have f1 : (kd != kd') = !v1 := by rw [← e1]; rfl
    rw [e1] at hS
    cases v1
    · have HS := Lib.hid hS
      clear hS
      go_enter Tryz.func19, Tryz.ntmps19
      go_wp2_with fail
      go_ret
      exact ⟨by rw [HS.out]; try rfl, by rw [HW0.out]; exact HB0.out⟩
    rw [Bool.true_and] at hS
    obtain ⟨v2, e2⟩ : ∃ v, (fl == fl') = v := ⟨_, rfl⟩
    have f2 : ((fl : Int) != (fl' : Int)) = !v2 := by rw [nb, e2]
    rw [e2] at hS
    cases v2
    · have HS := Lib.hid hS
      clear hS
      go_enter Tryz.func19, Tryz.ntmps19
      go_wp2_with fail
      go_ret
      exact ⟨by rw [HS.out]; try rfl, by rw [HW0.out]; exact HB0.out⟩
    rw [Bool.true_and] at hS
    obtain ⟨v3, e3⟩ : ∃ v, (n == n') = v := ⟨_, rfl⟩
    have f3 : ((n : Int) != (n' : Int)) = !v3 := by rw [nb, e3]
    rw [e3] at hS
    cases v3
    · have HS := Lib.hid hS
      clear hS
      go_enter Tryz.func19, Tryz.ntmps19
      go_wp2_with fail
      go_ret
      exact ⟨by rw [HS.out]; try rfl, by rw [HW0.out]; exact HB0.out⟩
    rw [Bool.true_and] at hS
    obtain ⟨v4, e4⟩ : ∃ v, (s == s') = v := ⟨_, rfl⟩
    rw [e4] at eX
    rw [e4] at hS
    cases v4
    · have HS := Lib.hid hS
      clear hS
      go_enter Tryz.func19, Tryz.ntmps19
      go_wp2_with fail
      go_ret
      exact ⟨by rw [HS.out]; try rfl, by rw [HW0.out]; exact HB0.out⟩
    rw [Bool.true_and] at hS
    by_cases hMM : M ≠ M'
    · have f5 : ((M : Int) != (M' : Int)) = true := by rw [bne_iff_ne]; omega
      have hse : (set == set') = false := by
        rw [beq_eq_false_iff_ne]
        intro e; subst e
        exact hMM (HM.out.symm.trans HM'.out)
      rw [hse] at hS
      have HS := Lib.hid hS
      clear hS
      go_enter Tryz.func19, Tryz.ntmps19
      go_wp2_with fail
      go_ret
      exact ⟨by rw [HS.out]; try rfl, by rw [HW0.out]; exact HB0.out⟩
    obtain rfl : M = M' := Decidable.not_not.1 hMM
    by_cases hNN : N ≠ N'
    · have f6 : ((N : Int) != (N' : Int)) = true := by rw [bne_iff_ne]; omega
      have f6n : (N == N') = false := by rw [beq_eq_false_iff_ne]; exact hNN
      have hse : sameL kids kids' = false := by
        cases hv : sameL kids kids' with
        | false => rfl
        | true => exact absurd (HN.out.symm.trans ((sameL_len hv).trans HN'.out)) hNN
      rw [hse, Bool.and_false] at hS
      have HS := Lib.hid hS
      clear hS
      go_enter Tryz.func19, Tryz.ntmps19
      go_wp2_with fail
      go_ret
      exact ⟨by rw [HS.out]; try rfl, by rw [HW0.out]; exact HB0.out⟩
    obtain rfl : N = N' := Decidable.not_not.1 hNN
    have HS := Lib.hid hS
    clear hS
    go_enter Tryz.func19, Tryz.ntmps19
    go_wp2_with fail
    rw [HW0.out]
    go_loopw [5] (fun t5 wr => ∃ j : Nat, j ≤ M ∧ t5 = .int .i64 j ∧ Hid (∀ i, i < j → set[i]? = set'[i]?) ∧ Hid (Below w0.heap.size w0 wr)) (fun t5 _ => M - (intOf t5).toNat)
    case atStart => exact ⟨0, Nat.zero_le _, rfl, fun i hi => absurd hi (Nat.not_lt_zero _), Below.refl _ _⟩
    case round =>
      obtain ⟨j, hj, rfl, HE, HB⟩ := hrel
      clear c0 c1 c2 c3 c4 c5 d0 d1 d2 d3 d4 d5
      obtain ⟨⟨c0, c1, c2, c3, c4, c5⟩, d0, d1, d2, d3, d4, d5⟩ := H12.out wr HB.out
      by_cases hlt : j < M
      · have hq : (j : Int) < M := by omega
        have hq0 : (0 : Int) ≤ j := by omega
        have hWr : Below W.heap.size W wr := HB0.out.trans (HB.out.mono HB0.out.size)
        obtain ⟨r, hr⟩ : ∃ r, set[j]? = some r := ⟨_, List.getElem?_eq_getElem (by rw [HM.out]; exact hlt)⟩
        obtain ⟨r', hr'⟩ : ∃ r, set'[j]? = some r := ⟨_, List.getElem?_eq_getElem (by rw [HM'.out]; exact hlt)⟩
        obtain ⟨b1, o1, rfl, _, k1, k2⟩ := (HA.out.below hWr) j r hr
        obtain ⟨b2, o2, rfl, _, k3, k4⟩ := (HA'.out.below hWr) j r' hr'
        obtain ⟨r1, r2⟩ := r
        obtain ⟨r3, r4⟩ := r'
        dsimp only at k1 k2 k3 k4
        have hnq := neq_range r1 r2 r3 r4
        have hng := neq_guard
        obtain ⟨v, hv⟩ : ∃ v, (((r1, r2) : Nat × Nat) == (r3, r4)) = v := ⟨_, rfl⟩
        rw [hv] at hnq
        cases v
        · have hne : (set == set') = false := by
            rw [beq_eq_false_iff_ne]
            intro e
            rw [e, hr'] at hr
            have := Option.some.inj hr
            rw [this] at hv
            simp at hv
          have HZ : Hid (Z = false) := by show _ = _; rw [HS.out, hne]; rfl
          clear hv hr hr' hne
          go_wp2_with fail
          go_quiet (fail)
          go_wp2_with fail
          go_ret
          exact ⟨by rw [HZ.out]; try rfl, below_drewN (HB0.out.trans (HB.out.mono HB0.out.size)) nq⟩
        · have hre : (r1, r2) = (r3, r4) := by simpa using hv
          have HE2 : Hid (∀ i, i < j + 1 → set[i]? = set'[i]?) := fun i hi => by
            by_cases h : i < j
            · exact HE.out i h
            · obtain rfl : i = j := by omega
              rw [hr, hr', hre]
          clear hv hr hr' hre
          go_wp2_with fail
          go_quiet (fail)
          go_wp2_with fail
          go_roundw
          case rel => exact ⟨j + 1, by omega, by go_num, HE2.out, below_drewN HB.out nq⟩
          case measure => simp [intOf]; omega
      · obtain rfl : j = M := by omega
        have hset : set = set' := by
          apply List.ext_getElem?
          intro i
          by_cases h : i < j
          · exact HE.out i h
          · rw [List.getElem?_eq_none (by rw [HM.out]; omega), List.getElem?_eq_none (by rw [HM'.out]; omega)]
        have HZ : Hid (Z = sameL kids kids') := by
          show _ = _
          rw [HS.out, hset]
          simp
        have hq : ¬ ((j : Int) < j) := by omega
        clear hset HE
        go_wp2_with fail
        go_loopw [6] (fun t6 wz => ∃ i : Nat, i ≤ N ∧ t6 = .int .i64 i ∧ Hid (∀ (q : Nat) (a b : KT), q < i → kids[q]? = some a → kids'[q]? = some b → sameK a b = true) ∧ Hid (Below w0.heap.size w0 wz)) (fun t6 _ => N - (intOf t6).toNat)
        case atStart => exact ⟨0, Nat.zero_le _, rfl, fun q a b hq => absurd hq (Nat.not_lt_zero _), HB.out⟩
        case round =>
          obtain ⟨i, hi, rfl, HE, HBz⟩ := hrel
          clear c0 c1 c2 c3 c4 c5 d0 d1 d2 d3 d4 d5
          obtain ⟨⟨_, _, _, _, _, c5⟩, _, _, _, _, _, d5⟩ := H12.out wr HBz.out
          by_cases hlt2 : i < N
          · have hq2 : (i : Int) < N := by omega
            have hq20 : (0 : Int) ≤ i := by omega
            have hWr : Below W.heap.size W wr := HB0.out.trans (HBz.out.mono HB0.out.size)
            obtain ⟨a1, ha1⟩ : ∃ a, kids[i]? = some a := ⟨_, List.getElem?_eq_getElem (by rw [HN.out]; exact hlt2)⟩
            obtain ⟨a2, ha2⟩ : ∃ a, kids'[i]? = some a := ⟨_, List.getElem?_eq_getElem (by rw [HN'.out]; exact hlt2)⟩
            obtain ⟨b1, o1, rfl, hl1, k1, K1⟩ := KidsC.at kids kp 0 i a1 HK.out ha1
            obtain ⟨b2, o2, rfl, hl2, k2, K2⟩ := KidsC.at kids' kp' 0 i a2 HK'.out ha2
            have C := fun w (hb : Below W.heap.size W w) => IH.out a1 (List.mem_of_getElem? ha1) a2 w (KeyC.below hb _ K1) (KeyC.below hb _ K2)
            have hex := HE.out
            have hsame : sameK a1 a2 = false → sameL kids kids' = false := fun h => by
              cases hv : sameL kids kids' with
              | false => rfl
              | true => rw [sameL_at hv ha1 ha2] at h; cases h
            have hnext : sameK a1 a2 = true → ∀ (q : Nat) (a b : KT), q < i + 1 → kids[q]? = some a → kids'[q]? = some b → sameK a b = true := fun h q a b hq ha hb => by
              by_cases hqi : q < i
              · exact hex q a b hqi ha hb
              · obtain rfl : q = i := by omega
                rw [ha1] at ha; rw [ha2] at hb
                cases ha; cases hb
                exact h
            rw [Nat.zero_add] at k1 k2
            obtain ⟨x0, x1, x2, x3, x4, x5, x6, x7, x8, x9⟩ := a1
            obtain ⟨y0, y1, y2, y3, y4, y5, y6, y7, y8, y9⟩ := a2
            obtain ⟨z, hz⟩ : ∃ z, sameK (.mk x0 x1 x2 x3 x4 x5 x6 x7 x8 x9) (.mk y0 y1 y2 y3 y4 y5 y6 y7 y8 y9) = z := ⟨_, rfl⟩
            rw [hz] at hsame hnext
            simp only [hz] at C
            have C : Hid (∀ w, Below W.heap.size W w → Calls Tryz.prog 19 #[.agg #[.int .i64 x0, .int .u8 x1, .slice x6 x2.length x7, .int .u32 x3, .string (txt x4), .slice x8 x5.length x9], .agg #[.int .i64 y0, .int .u8 y1, .slice y6 y2.length y7, .int .u32 y3, .string (txt y4), .slice y8 y5.length y9]] w fun e w' => e = .returned (.bool z) ∧ Below w.heap.size w w') := C
            have p0 := k1 0 _ rfl
            have p1 := k1 1 _ rfl
            have p2 := k1 2 _ rfl
            have p3 := k1 3 _ rfl
            have p4 := k1 4 _ rfl
            have p5 := k1 5 _ rfl
            have q0 := k2 0 _ rfl
            have q1 := k2 1 _ rfl
            have q2 := k2 2 _ rfl
            have q3 := k2 3 _ rfl
            have q4 := k2 4 _ rfl
            have q5 := k2 5 _ rfl
            rw [Nat.add_zero] at p0 q0
            obtain ⟨s1, hs1⟩ : ∃ s1, o1 + i * 6 = s1 := ⟨_, rfl⟩
            obtain ⟨s2, hs2⟩ : ∃ s2, o2 + i * 6 = s2 := ⟨_, rfl⟩
            rw [hs1] at p0 p1 p2 p3 p4 p5
            rw [hs2] at q0 q1 q2 q3 q4 q5
            have KS : Hid (∀ w, Below w0.heap.size w0 w → (w.cell? ⟨W.heap.size, 5, none⟩ = some (.slice (some ⟨b1, o1, none⟩) N kcap) ∧ w.cell? ⟨W.heap.size + 1, 5, none⟩ = some (.slice (some ⟨b2, o2, none⟩) N kcap')) ∧
                (w.cell? ⟨b1, s1, none⟩ = some (.int .i64 x0) ∧ w.cell? ⟨b1, s1 + 1, none⟩ = some (.int .u8 x1) ∧ w.cell? ⟨b1, s1 + 2, none⟩ = some (.slice x6 x2.length x7) ∧ w.cell? ⟨b1, s1 + 3, none⟩ = some (.int .u32 x3) ∧ w.cell? ⟨b1, s1 + 4, none⟩ = some (.string (txt x4)) ∧ w.cell? ⟨b1, s1 + 5, none⟩ = some (.slice x8 x5.length x9)) ∧
                (w.cell? ⟨b2, s2, none⟩ = some (.int .i64 y0) ∧ w.cell? ⟨b2, s2 + 1, none⟩ = some (.int .u8 y1) ∧ w.cell? ⟨b2, s2 + 2, none⟩ = some (.slice y6 y2.length y7) ∧ w.cell? ⟨b2, s2 + 3, none⟩ = some (.int .u32 y3) ∧ w.cell? ⟨b2, s2 + 4, none⟩ = some (.string (txt y4)) ∧ w.cell? ⟨b2, s2 + 5, none⟩ = some (.slice y8 y5.length y9))) := fun w hb => by
              have hW : Below W.heap.size W w := HB0.out.trans (hb.mono HB0.out.size)
              obtain ⟨⟨_, _, _, _, _, g5⟩, _, _, _, _, _, h5⟩ := H12.out w hb
              have f1 : ∀ o v, W.cell? ⟨b1, o, none⟩ = some v → w.cell? ⟨b1, o, none⟩ = some v := fun o v h => (hW.cell (p := ⟨b1, o, none⟩) hl1).trans h
              have f2 : ∀ o v, W.cell? ⟨b2, o, none⟩ = some v → w.cell? ⟨b2, o, none⟩ = some v := fun o v h => (hW.cell (p := ⟨b2, o, none⟩) hl2).trans h
              exact ⟨⟨g5, h5⟩, ⟨f1 _ _ p0, f1 _ _ p1, f1 _ _ p2, f1 _ _ p3, f1 _ _ p4, f1 _ _ p5⟩, f2 _ _ q0, f2 _ _ q1, f2 _ _ q2, f2 _ _ q3, f2 _ _ q4, f2 _ _ q5⟩
            have HBx : Hid (Below w0.heap.size w0 wr) := HBz
            have HSM := Lib.hid hsame
            have HNX := Lib.hid hnext
            clear p0 p1 p2 p3 p4 p5 q0 q1 q2 q3 q4 q5 k1 k2 K1 K2 ha1 ha2 hz hsame hnext hex HE
            go_wp2_with fail
            go_region_held3 (fun w => (w.cell? ⟨W.heap.size, 5, none⟩ = some (.slice (some ⟨b1, o1, none⟩) N kcap) ∧ w.cell? ⟨W.heap.size + 1, 5, none⟩ = some (.slice (some ⟨b2, o2, none⟩) N kcap')) ∧
                (w.cell? ⟨b1, s1, none⟩ = some (.int .i64 x0) ∧ w.cell? ⟨b1, s1 + 1, none⟩ = some (.int .u8 x1) ∧ w.cell? ⟨b1, s1 + 2, none⟩ = some (.slice x6 x2.length x7) ∧ w.cell? ⟨b1, s1 + 3, none⟩ = some (.int .u32 x3) ∧ w.cell? ⟨b1, s1 + 4, none⟩ = some (.string (txt x4)) ∧ w.cell? ⟨b1, s1 + 5, none⟩ = some (.slice x8 x5.length x9)) ∧
                (w.cell? ⟨b2, s2, none⟩ = some (.int .i64 y0) ∧ w.cell? ⟨b2, s2 + 1, none⟩ = some (.int .u8 y1) ∧ w.cell? ⟨b2, s2 + 2, none⟩ = some (.slice y6 y2.length y7) ∧ w.cell? ⟨b2, s2 + 3, none⟩ = some (.int .u32 y3) ∧ w.cell? ⟨b2, s2 + 4, none⟩ = some (.string (txt y4)) ∧ w.cell? ⟨b2, s2 + 5, none⟩ = some (.slice y8 y5.length y9)))
              (first | exact KS.out _ HBx.out | exact KS.out _ HBx.out.drew)
              (first | (go_at_call 19; refine (C.out _ (by first | exact HB0.out.trans (HBx.out.mono HB0.out.size) | exact (HB0.out.trans (HBx.out.mono HB0.out.size)).drew)).mono ?_; rintro e wx ⟨rfl, hb⟩; have HBx : Hid (Below w0.heap.size w0 wx) := (by first | exact HBx.out.trans (hb.mono HBx.out.size) | exact HBx.out.drew.trans (hb.mono HBx.out.size)); clear hb))
            all_goals
              cases z
              · have HZ2 : Hid (Z = false) := HZ.out.trans (HSM.out rfl)
                go_wp2_with fail
                go_ret
                exact ⟨by rw [HZ2.out]; try rfl, HB0.out.trans (HBx.out.mono HB0.out.size)⟩
              · have HNX2 := Lib.hid (HNX.out rfl)
                go_wp2_with fail
                go_roundw
                case rel => exact ⟨i + 1, by omega, by go_num, HNX2.out, HBx.out⟩
                case measure => simp [intOf]; omega
          · obtain rfl : i = N := by omega
            have hq2 : ¬ ((i : Int) < i) := by omega
            have HZ2 : Hid (Z = true) := HZ.out.trans (sameL_all (HN.out.trans HN'.out.symm) fun q a b ha hb => HE.out q a b (by have := (List.getElem?_eq_some_iff.1 ha).1; rw [HN.out] at this; exact this) ha hb)
            go_wp2_with fail
            go_ret
            exact ⟨by rw [HZ2.out]; try rfl, HB0.out.trans (HBz.out.mono HB0.out.size)⟩
end Go.Proofs.YtdpmnmiimfhlhaaGreatDoor
set_option linter.unusedVariables false
set_option linter.unusedSimpArgs false
namespace Go.Proofs.YtdpmnmiimfhlhaaGreatDoor
open Go Go.RowKit
/-- May a key have this kind, flag, number of ranges, number, length of text, number of kids? -/
def NodeP (kind : Int) (fl M n sl N : Nat) : Prop :=
  0 ≤ kind ∧ kind ≤ 10 ∧ (fl ≠ 0 ↔ (kind = 1 ∨ kind = 2)) ∧ (fl ≠ 0 → fl = 1 ∨ fl = 2 ∨ fl = 4 ∨ fl = 8 ∨ fl = 16) ∧ (0 < M ↔ (kind = 3 ∨ kind = 4)) ∧ M ≤ 64 ∧ (n ≠ 0 → kind = 5 ∨ kind = 6) ∧ (0 < sl → kind = 7) ∧ sl ≤ 65536 ∧
    (kind < 8 → N = 0) ∧ (kind = 8 → N = 1) ∧ (kind = 9 → N = 2) ∧ (kind = 10 → N ≠ 0)
instance (kind : Int) (fl M n sl N : Nat) : Decidable (NodeP kind fl M n sl N) := by unfold NodeP; infer_instance
mutual
def rightK : KT → Int → Bool
  | .mk kind flag set n s kids _ _ _ _, d => decide (1 ≤ d) && (decide (NodeP kind flag set.length n s.length kids.length) && rightL kids (d - 1))
def rightL : List KT → Int → Bool
  | [], _ => true
  | k :: r, d => rightK k d && rightL r d
end
theorem rightL_at : ∀ {l : List KT} {d : Int} {k : KT}, rightL l d = true → k ∈ l → rightK k d = true
  | [], d, k, h, hk => by simp at hk
  | a :: r, d, k, h, hk => by
    unfold rightL at h
    rw [Bool.and_eq_true] at h
    rcases List.mem_cons.1 hk with e | hk
    · rw [e]; exact h.1
    · exact rightL_at h.2 hk
theorem rightL_all : ∀ {l : List KT} {d : Int}, (∀ k ∈ l, rightK k d = true) → rightL l d = true
  | [], d, h => by unfold rightL; rfl
  | a :: r, d, h => by
    unfold rightL
    rw [h a (by simp), rightL_all (l := r) fun k hk => h k (by simp [hk])]
    rfl
/-- What the kids' contracts come to. -/
def RightIH (kids : List KT) : Prop := ∀ k ∈ kids, ∀ (d : Int) (W : World), 0 ≤ d → d ≤ 4611686018427387904 → KeyC W k → Calls Tryz.prog 13 #[k.val, .int .i64 d] W fun e w' => e = .returned (.bool (rightK k d)) ∧ Below W.heap.size W w'
end Go.Proofs.YtdpmnmiimfhlhaaGreatDoor
set_option linter.unusedVariables false
set_option linter.unusedSimpArgs false
namespace Go.Proofs.YtdpmnmiimfhlhaaGreatDoor
open Go Go.RowKit
/-- One of the five. -/
def oneFl (fl : Nat) : Bool := fl == 1 || fl == 2 || fl == 4 || fl == 8 || fl == 16
theorem oneFl_count : ∀ fl : Nat, fl < 256 → (Lib.onesCount fl == 1 && decide (fl ≤ 16)) = oneFl fl := by decide +kernel
set_option maxRecDepth 20000 in
theorem sSingle_c (fl : Nat) (hfl : fl < 256) (w : World) : Calls Tryz.prog 120 #[.int .u8 fl] w fun e w' => e = .returned (.bool (oneFl fl)) ∧ w' = w := by
  have C := Tryz.bits_OnesCount8 (fl : Int) w (by omega) (by omega)
  rw [Int.toNat_natCast] at C
  have h := oneFl_count fl hfl
  obtain ⟨N, hN⟩ : ∃ N, Lib.onesCount fl = N := ⟨_, rfl⟩
  rw [hN] at C h
  rw [← h]
  clear h hN
  have C := Lib.hid C
  go_enter Tryz.func120, Tryz.ntmps120
  go_wp2_with (first | (go_at_call 176; refine (C.out).mono ?_; rintro e w1 ⟨rfl, rfl⟩) | fail)
  · rename_i h
    go_ret
    refine ⟨?_, rfl⟩
    have hN1 : N = 1 := by omega
    have e : decide ((fl : Int) ≤ 16) = decide (fl ≤ 16) := by simp; omega
    rw [hN1, e]
    rfl
  · rename_i h
    go_ret
    refine ⟨?_, rfl⟩
    have hN1 : (N == 1) = false := by simp; omega
    have e : ((N : Int) == 1) = false := by simp; omega
    rw [hN1]
    rfl
end Go.Proofs.YtdpmnmiimfhlhaaGreatDoor
set_option linter.unusedVariables false
set_option linter.unusedSimpArgs false
namespace Go.Proofs.YtdpmnmiimfhlhaaGreatDoor
open Go Go.RowKit Go.Shelf

theorem sizeBuilder : (Tryz.prog.info? 171).map (·.size) = some 2 := by kernel_rfl
theorem liesBuilder : liesAt Tryz.prog Tryz.prog.depth 171 (2 / Tryz.prog.cellsOf 171) 0 171 1 = true := by kernel_rfl
theorem infoByte : (Tryz.prog.info? 5).map (fun i => (i.zero, i.size, i.bytes)) = some (some (.int .u8 0), 1, 1) := by kernel_rfl

set_option maxRecDepth 100000 in
set_option maxHeartbeats 1000000 in
theorem copyCheck_c (B b : Nat) (bs : List Value) (w : World) (h : Lib.IsBuilderF 171 5 B b bs w) :
    Calls Tryz.prog 193 #[.pointer (some ⟨b, 0, none⟩)] w fun e w' => e = .returned (.tuple #[]) ∧ (Lib.BuilderAtF 171 5 B b (.pointer (some ⟨b, 0, none⟩)) bs w' ∧ Below B w w' ∧ Lib.OthersKept 5 (some b) w w') := by
  rcases h with h | h
  · have h0 := h.cell0
    have hsh := h.shape
    have hfz := h.frozen0
    have H := Lib.hid h
    clear h
    go_enter Tryz.func193, Tryz.ntmps193
    go_wp2
    obtain ⟨j, hj, hjs⟩ := Option.map_eq_some_iff.1 sizeBuilder
    rw [Lib.run_to_unsafe w ⟨b, 0, none⟩ Tryz.underlying169 Tryz.underlying244 hj (by rw [hjs]; decide) hsh (Nat.zero_lt_succ 1)]
    simp only [Result.andThen]
    rw [Oper.upon_value]
    have HJ := Lib.hid hj
    have HJS := Lib.hid hjs
    clear hj hjs
    go_wp2
    rw [run_callFunc_extern Tryz.func229 (by kernel_rfl) (by kernel_rfl) (by kernel_rfl) (e := Extern.AbiNoEscape.same) (by kernel_rfl)]
    rw [Lib.run_noEscape]
    simp only [Result.andThen]
    rw [Oper.upon_value]
    go_wp2
    rw [Lib.run_from_unsafe w ⟨b, 0, none⟩ Tryz.underlying244 Tryz.underlying169 HJ.out hsh liesBuilder]
    simp only [Result.andThen]
    rw [Oper.upon_value]
    go_wp2
    go_end0
    exact ⟨rfl, H.out.used _, (Below.refl B w).setCell (p := ⟨b, 0, none⟩) H.out.1 _, (Lib.OthersKept.refl _ _ w).setCell ⟨b, 0, none⟩ rfl _⟩
  · have h0 := h.cell0
    have H := Lib.hid h
    clear h
    go_enter Tryz.func193, Tryz.ntmps193
    go_wp2
    obtain ⟨j, hj, hjs⟩ := Option.map_eq_some_iff.1 sizeBuilder
    rw [Lib.run_neq_ptr_same w _ Tryz.underlying169 hj]
    clear hj hjs
    go_wp2
    go_end0
    exact ⟨rfl, H.out, Below.refl B _, Lib.OthersKept.refl _ _ _⟩

set_option maxHeartbeats 2000000 in
set_option maxRecDepth 100000 in
theorem writeByte_c (B b : Nat) (bs : List Value) (c : Int) (w : World) (h : Lib.IsBuilderF 171 5 B b bs w) (hlen : bs.length + 1 ≤ 140737488355328) (hBw : B ≤ w.heap.size) :
    Calls Tryz.prog 152 #[.pointer (some ⟨b, 0, none⟩), .int .u8 c] w fun e w' => e = .returned .nilIface ∧ (Lib.BuilderAtF 171 5 B b (.pointer (some ⟨b, 0, none⟩)) (bs ++ [.int .u8 c]) w' ∧ Below B w w' ∧ Lib.OthersKept 5 (some b) w w') := by
  obtain ⟨i0, hi, hz0, hz1, hz2⟩ := info_parts infoByte
  go_enter Tryz.func152, Tryz.ntmps152
  go_wp2_with (go_at_call 193; refine (copyCheck_c B b bs _ h).mono ?_)
  rintro e w1 ⟨rfl, h1, hb1, hk1⟩
  obtain ⟨hB, v, hbk, hown, hne⟩ := h1
  have c0 : w1.cell? ⟨b, 0, none⟩ = some (.pointer (some ⟨b, 0, none⟩)) := by rw [Lib.cell_of_heap hbk]; rfl
  have c1 : w1.cell? ⟨b, 1, none⟩ = some v := by rw [Lib.cell_of_heap hbk]; rfl
  go_wp2_with (at_builtin; refine wpList_append_ownF _ rfl _ _ 97 rfl B 5 i0 (.int .u8 0) 1 1 Tryz.underlying97 hi hz0 hz1 hz2 rfl (by decide) _ _ _ rfl (hown.alloc _) ⟨w1.heap.size, 0, none⟩ 1 1 [.int .u8 c] rfl rfl ?c1 ?c2 ?c3 ?c4 ?c5 ?_)
  case c1 =>
    intro j u hj
    match j, hj with
    | 0, hj => simp at hj; subst hj; simp [Addr.add]
  case c2 => intro u hu; simp at hu; subst hu; rfl
  case c3 => unfold maxLen; omega
  case c4 => omega
  case c5 => have := hb1.size; simp; omega
  intro v' w2 hown' hgrow _
  have hlt : b < w1.heap.size := (Array.getElem?_eq_some_iff.1 hbk).1
  have hb2 : w2.heap[b]? = some (.cells #[.pointer (some ⟨b, 0, none⟩), v] 171 (0, 0)) := by
    rw [hgrow.block b (by simp; omega) (fun e => hne e.symm), Lib.alloc_old w1 _ b hlt]
    exact hbk
  have d0 : w2.cell? ⟨b, 0, none⟩ = some (.pointer (some ⟨b, 0, none⟩)) := by rw [Lib.cell_of_heap hb2]; rfl
  have d1 : w2.cell? ⟨b, 1, none⟩ = some v := by rw [Lib.cell_of_heap hb2]; rfl
  have f1 : w2.frozen? ⟨b, 1, none⟩ = false := Lib.frozen_of_heap hb2 1
  obtain ⟨g, cap, rfl⟩ : ∃ g cap, v' = .slice (some ⟨g, 0, none⟩) (bs.length + 1) cap := by
    rcases hown'.2 with ⟨_, h0⟩ | ⟨g, cap, cur, fz, hv, _⟩
    · omega
    · exact ⟨g, cap, hv⟩
  go_wp2
  go_ret
  refine ⟨rfl, ?_, ?_, ((hk1.alloc _).grown hgrow (Lib.ownsRowF_kind (hown.alloc _))).setCell ⟨b, 1, none⟩ rfl _⟩
  · exact Lib.BuilderAtF.put (T := 171) (e := 5) hB hb2 (bs' := bs ++ [.int .u8 c]) (by simpa using hown') (by decide)
  · exact ((hb1.alloc (by have := hb1.size; omega) _).grown hgrow (by have := hb1.size; simp; omega) (fun k hk => (hown.lt k hk).1)).setCell (p := ⟨b, 1, none⟩) hB _

set_option maxHeartbeats 2000000 in
set_option maxRecDepth 100000 in
theorem writeString_c (B b : Nat) (bs : List Value) (s : ByteArray) (w : World) (h : Lib.IsBuilderF 171 5 B b bs w) (hlen : bs.length + s.size ≤ 140737488355328) (hBw : B ≤ w.heap.size) :
    Calls Tryz.prog 155 #[.pointer (some ⟨b, 0, none⟩), .string s] w fun e w' => e = .returned (.tuple #[.int .i64 s.size, .nilIface]) ∧ (Lib.BuilderAtF 171 5 B b (.pointer (some ⟨b, 0, none⟩)) (bs ++ Lib.strCells s) w' ∧ Below B w w' ∧ Lib.OthersKept 5 (some b) w w') := by
  obtain ⟨i0, hi, hz0, hz1, hz2⟩ := info_parts infoByte
  go_enter Tryz.func155, Tryz.ntmps155
  go_wp2_with (go_at_call 193; refine (copyCheck_c B b bs _ h).mono ?_)
  rintro e w1 ⟨rfl, h1, hb1, hk1⟩
  obtain ⟨hB, v, hbk, hown, hne⟩ := h1
  have c0 : w1.cell? ⟨b, 0, none⟩ = some (.pointer (some ⟨b, 0, none⟩)) := by rw [Lib.cell_of_heap hbk]; rfl
  have c1 : w1.cell? ⟨b, 1, none⟩ = some v := by rw [Lib.cell_of_heap hbk]; rfl
  go_wp2_with (at_builtin; refine Lib.wpList_append_own_stringF _ rfl _ _ 97 9 rfl B 5 i0 Tryz.underlying97 Tryz.underlying9 hi hz0 hz1 hz2 _ _ _ rfl hown s rfl ?c3 ?c4 ?c5 ?_)
  case c3 => unfold maxLen; omega
  case c4 => omega
  case c5 => have := hb1.size; omega
  intro v' w2 hown' hgrow _
  have hlt : b < w1.heap.size := (Array.getElem?_eq_some_iff.1 hbk).1
  have hb2 : w2.heap[b]? = some (.cells #[.pointer (some ⟨b, 0, none⟩), v] 171 (0, 0)) := by
    rw [hgrow.block b hlt (fun e => hne e.symm)]
    exact hbk
  have d0 : w2.cell? ⟨b, 0, none⟩ = some (.pointer (some ⟨b, 0, none⟩)) := by rw [Lib.cell_of_heap hb2]; rfl
  have d1 : w2.cell? ⟨b, 1, none⟩ = some v := by rw [Lib.cell_of_heap hb2]; rfl
  have f1 : w2.frozen? ⟨b, 1, none⟩ = false := Lib.frozen_of_heap hb2 1
  obtain ⟨ao, n', cap, rfl⟩ : ∃ ao n' cap, v' = .slice ao n' cap := by
    rcases hown'.2 with ⟨hv, _⟩ | ⟨g, cap, cur, fz, hv, _⟩
    · exact ⟨_, _, _, hv⟩
    · exact ⟨_, _, _, hv⟩
  go_wp2
  go_ret2
  refine ⟨rfl, ?_, ?_, (hk1.grown hgrow (Lib.ownsRowF_kind hown)).setCell ⟨b, 1, none⟩ rfl _⟩
  · exact Lib.BuilderAtF.put (T := 171) (e := 5) hB hb2 (bs' := bs ++ Lib.strCells s) (by simpa [Lib.strCells_length] using hown') (by decide)
  · exact (hb1.grown hgrow (by have := hb1.size; omega) (fun k hk => (hown.lt k hk).1)).setCell (p := ⟨b, 1, none⟩) hB _
end Go.Proofs.YtdpmnmiimfhlhaaGreatDoor
set_option linter.unusedVariables false
set_option linter.unusedSimpArgs false
namespace Go.Proofs.YtdpmnmiimfhlhaaGreatDoor
open Go Go.RowKit Go.Shelf
attribute [local go_sem] Oper.semAt_some wide_fn wide_depth

theorem ownsRowF_itself {T0 : TypeId → Prop} {D : Nat} {A B : World} (h : Itself T0 D A B) {base : Nat} {e : TypeId} {size : Nat} {v : Value} {n : Nat} {xs : List Value} (hT : ¬ T0 e)
    (ho : A.ownsRowF base e size v n xs) : B.ownsRowF base e size v n xs := by
  refine ⟨ho.1, ?_⟩
  rcases ho.2 with hn | ⟨g, cap, cur, fz, hv, hb, hg, rest⟩
  · exact .inl hn
  · exact .inr ⟨g, cap, cur, fz, hv, hb, h.same _ _ _ _ hT hg, rest⟩
theorem builder_itself {T0 : TypeId → Prop} {D : Nat} {A B : World} (h : Itself T0 D A B) {T e : TypeId} {base b : Nat} {bs : List Value} (hT : ¬ T0 e) (hb : b < D)
    (hI : Lib.IsBuilderF T e base b bs A) : Lib.IsBuilderF T e base b bs B := by
  have one : ∀ p, Lib.BuilderAtF T e base b p bs A → Lib.BuilderAtF T e base b p bs B := by
    rintro p ⟨h1, v, h2, h3, h4⟩
    exact ⟨h1, v, (h.below _ hb).trans h2, ownsRowF_itself h hT h3, h4⟩
  exact hI.imp (one _) (one _)
theorem keeps_of_others {T : TypeId → Prop} {cap : Nat → Prop} {D : Nat} {W W' : World} {e : TypeId} {b : Nat} (h : Lib.OthersKept e (some b) W W') (hs : W.heap.size ≤ W'.heap.size) (hT : T e) (hb : b < D) (hcb : ¬ cap b)
    (hce : ∀ k c fz, cap k → W.heap[k]? ≠ some (.cells c e fz)) : Keeps T cap D W W' :=
  ⟨hs, fun k o hk hp => h k o hk (by
    intro he; cases he
    rcases hp with hp | hp
    · exact hcb hp
    · omega) (fun c fz ho => by
    subst ho
    rcases hp with hp | hp
    · exact hce k c fz hp hk
    · exact hp.2 c e fz hT rfl)⟩

theorem blen_c (B b : Nat) (bs : List Value) (n : Int) (hn : n = bs.length) (w : World) (h : Lib.IsBuilderF 171 5 B b bs w) :
    Calls Tryz.prog 154 #[.pointer (some ⟨b, 0, none⟩)] w fun e w' => e = .returned (.int .i64 n) ∧ w = w' :=
  (Tryz.Builder_Len_f B b bs w h).mono fun _ _ ⟨h1, h2⟩ => ⟨by rw [hn]; exact h1, h2.symm⟩
theorem put_c (b : Nat) (l : List UInt8) (c : UInt8) (n : Int) (hn : n = c.toNat) (w : World) (h : Lib.IsBuilderF 171 5 b b (Lib.byteCells l) w) (hlen : l.length ≤ 1000) (hBw : b ≤ w.heap.size) :
    Calls Tryz.prog 152 #[.pointer (some ⟨b, 0, none⟩), .int .u8 n] w fun e w' => e = .returned .nilIface ∧ Lib.IsBuilderF 171 5 b b (Lib.byteCells (l ++ [c])) w' ∧ Below b w w' ∧ Lib.OthersKept 5 (some b) w w' := by
  subst hn
  refine (writeByte_c b b _ _ w h (by rw [Lib.byteCells_length]; omega) hBw).mono ?_
  rintro e w' ⟨he, h1, h2, h3⟩
  refine ⟨he, .inr ?_, h2, h3⟩
  rw [Lib.byteCells_append]
  exact h1
theorem puts_c (b : Nat) (l : List UInt8) (s : ByteArray) (w : World) (h : Lib.IsBuilderF 171 5 b b (Lib.byteCells l) w) (hlen : l.length ≤ 1000) (hs : s.size ≤ 1000) (hBw : b ≤ w.heap.size) :
    Calls Tryz.prog 155 #[.pointer (some ⟨b, 0, none⟩), .string s] w fun e w' => e = .returned (.tuple #[.int .i64 s.size, .nilIface]) ∧ Lib.IsBuilderF 171 5 b b (Lib.byteCells (l ++ s.data.toList)) w' ∧ Below b w w' ∧ Lib.OthersKept 5 (some b) w w' := by
  refine (writeString_c b b _ _ w h (by rw [Lib.byteCells_length]; omega) hBw).mono ?_
  rintro e w' ⟨he, h1, h2, h3⟩
  refine ⟨he, .inr ?_, h2, h3⟩
  rw [Lib.byteCells_append]
  exact h1
theorem nmB_size (i : Nat) : (nmB i).size ≤ 9 := by show (nm i).toArray.size ≤ 9; simpa using (nm_le i).1

set_option maxRecDepth 100000 in
set_option maxHeartbeats 4000000 in
theorem string_c (s : Nat) (hs : s < 256) (w : World) (hN : Names w) : Calls Tryz.prog 92 #[.int .u8 s] w fun e w' => e = .returned (.string ⟨(textOf s).toArray⟩) ∧ Below w.heap.size w w' := by
  refine (callsIn_wide (n := 3)).1 ?_
  refine callsIn_of_wp_marks Tryz.func92 rfl trivial ?_
  simp only [Tryz.ntmps92, List.size_toArray, List.length_cons, List.length_nil, Nat.reduceAdd, Nat.reduceSub, Array.replicate_succ, Array.replicate_zero, List.push_toArray, List.append_toArray, List.nil_append, List.cons_append]
  have HN := Lib.hid hN
  have HS := Lib.hid hs
  clear hN hs
  have hI0 := Lib.IsBuilderF.of (Lib.fresh_isBuilder 171 5 w)
  have HI0 := Lib.hid hI0
  clear hI0
  gi_wp2_with (gi_at_call 152; refine CallsIn.w (writeByte_c w.heap.size w.heap.size [] 40 _ HI0.out (by simp) (by simp)) ?_)
  rintro e w1 ⟨rfl, h1, hb1, -⟩
  replace h1 : Lib.IsBuilderF 171 5 w.heap.size w.heap.size (Lib.byteCells (40 :: joined [])) w1 := .inr h1
  replace hb1 : Below w.heap.size w w1 := ((Below.refl _ w).alloc (Nat.le_refl _) _).trans hb1
  have hlt1 : w.heap.size < w1.heap.size := h1.elim (·.lt) (·.lt)
  have H1 := Lib.hid h1
  have HB1 := Lib.hid hb1
  clear h1 hb1
  gi_wp2_with (gi_at_call 153; refine CallsIn.w (names_c _ _) ?_; rintro e w' ⟨rfl, rfl⟩)
  have bS := Boxed.new w1 32 (.int .u8 s)
  have hi0 : Itself (fun e => e = 68 ∨ e = 32) w1.heap.size w1 (w1.alloc (.cells #[.int .u8 s] 32)) := Itself.alloc _ w1 _ (Nat.le_refl _)
  have hsz : (w1.alloc (.cells #[.int .u8 s] 32)).heap.size = w1.heap.size + 1 := by simp
  have hI1 := builder_itself hi0 (show ¬ ((5 : Nat) = 68 ∨ (5 : Nat) = 32) by decide) hlt1 H1.out
  have hB1 : Below w.heap.size w (w1.alloc (.cells #[.int .u8 s] 32)) := HB1.out.trans (hi0.toBelow.mono (by omega))
  obtain ⟨W0, hW0⟩ : ∃ W0, w1.alloc (.cells #[.int .u8 s] 32) = W0 := ⟨_, rfl⟩
  rw [hW0] at bS hsz hi0 hI1 hB1 ⊢
  clear hW0 hi0
  refine wpIn_rangeIter (gf := 194) (lb := #[.pointer (some ⟨w1.heap.size, 0, none⟩)]) rfl (enters_of Tryz.func194 (by kernel_rfl) rfl) (names1_iter s w1.heap.size HS.out) (fun e => e = 5) (fun e he h => by subst he; revert h; decide) (fun _ => rfl)
    (fun k hk => by subst hk; omega) (fun W' hW' => ⟨HN.out.later ((hB1.trans (hW'.mono (by omega))).mono HN.out.lt), (hW'.block _ (by omega)).trans bS⟩)
    (fun pre W' => Lib.IsBuilderF 171 5 w.heap.size w.heap.size (Lib.byteCells (40 :: joined pre)) W' ∧ Below w.heap.size w W' ∧ Boxed W' w1.heap.size 32 (.int .u8 s))
    (fun _ _ _ => False)
    (fun s' A B h hAB => ⟨builder_itself hAB (by decide) (by omega) h.1, h.2.1.trans (hAB.toBelow.mono (by omega)), hAB.boxed h.2.2 (.inl (by omega))⟩)
    (fun c s' A B h hAB => h)
    ⟨hI1, hB1, bS⟩ ?round ?done ?stop
  case round =>
    rintro l' pre x W1 hl ⟨hj, hf, hb1⟩ hst
    gi_wp2
    refine ⟨Keeps.refl _ _ _ _, fun W2 hits hsz2 hrec hoth => ?_⟩
    have hj2 := builder_itself hits (show ¬ ((5 : Nat) = 68 ∨ (5 : Nat) = 32) by decide) (show w.heap.size < W0.heap.size by omega) hj
    have hf2 := hf.trans (hits.toBelow.mono (show w.heap.size ≤ W0.heap.size by omega))
    have hb2 := hits.boxed hb1 (.inl (by omega))
    have HJ2 := Lib.hid hj2
    have HF2 := Lib.hid hf2
    have HB2 := Lib.hid hb2
    have HST := Lib.hid hst
    have hle : w.heap.size ≤ W2.heap.size := hf2.size
    clear hj2 hf2 hb2 hst hj hf hb1 hits hrec hoth hsz2
    have hpl : (joined pre).length ≤ 50 := by
      have h1 := joined_le pre
      have h2 := ((List.prefix_append pre [x]).trans HST.out).length_le
      have h3 := seqOf_len s 5
      omega
    have fin : ∀ (l : List UInt8) (W3 : World), l = 40 :: joined (pre ++ [x]) → Lib.IsBuilderF 171 5 w.heap.size w.heap.size (Lib.byteCells l) W3 → Below w.heap.size W2 W3 → Lib.OthersKept 5 (some w.heap.size) W2 W3 →
        Keeps (fun e => e = 5) (fun k => k = w1.heap.size) W0.heap.size W2 W3 ∧ Lib.IsBuilderF 171 5 w.heap.size w.heap.size (Lib.byteCells (40 :: joined (pre ++ [x]))) W3 ∧ Below w.heap.size w W3 ∧ Boxed W3 w1.heap.size 32 (.int .u8 s) := by
      intro l W3 hl h1 h2 h3
      subst hl
      have hk : Keeps (fun e => e = 5) (fun k => k = w1.heap.size) W0.heap.size W2 W3 := keeps_of_others h3 h2.size rfl (by omega) (by omega) (fun k c fz hk ho => by
        subst hk
        have h24 := (show W2.heap[w1.heap.size]? = _ from HB2.out).symm.trans ho
        cases h24)
      exact ⟨hk, h1, HF2.out.trans h2, hk.boxed HB2.out (.inl rfl)⟩
    have FIN := Lib.hid fin
    clear fin
    by_cases hp : pre = []
    · have HP := Lib.hid hp
      clear hp
      gi_wp2_with (gi_at_call 154; refine CallsIn.wr (blen_c _ _ _ 1 (by rw [HP.out]; rfl) _ HJ2.out) ?_; rintro e w' ⟨rfl, rfl⟩)
      refine CallsIn.wr (puts_c _ _ _ _ HJ2.out (by simp; omega) (Nat.le_trans (nmB_size x) (by omega)) hle) ?_
      rintro e w' ⟨rfl, g1, g2, g3⟩
      have HQ := Lib.hid (FIN.out _ w' (by rw [joined_snoc, HP.out]; rfl) g1 g2 g3)
      clear g1 g2 g3
      gi_wp2_with fail
      exact HQ.out
    · obtain ⟨i, pre', hpe⟩ : ∃ i pre', pre = i :: pre' := by
        cases pre with
        | nil => exact absurd rfl hp
        | cons i l => exact ⟨i, l, rfl⟩
      have HPE := Lib.hid hpe
      have HP := Lib.hid hp
      clear hp hpe
      obtain ⟨m, hm, hm1⟩ : ∃ m : Int, m = ((Lib.byteCells (40 :: joined pre)).length : Int) ∧ 1 < m := ⟨_, rfl, by
        rw [Lib.byteCells_length, HPE.out]; have := joined_pos i pre'; simp only [List.length_cons]; omega⟩
      have HM := Lib.hid hm
      clear hm
      gi_wp2_with (gi_at_call 154; refine CallsIn.wr (blen_c _ _ _ m HM.out _ HJ2.out) ?_; rintro e w' ⟨rfl, rfl⟩)
      refine CallsIn.wr (put_c _ _ 32 32 rfl _ HJ2.out (by simp; omega) hle) ?_
      rintro e w3 ⟨rfl, g1, g2, g3⟩
      have G1 := Lib.hid g1
      have G2 := Lib.hid g2
      have G3 := Lib.hid g3
      have hle3 : w.heap.size ≤ w3.heap.size := Nat.le_trans hle g2.size
      clear g1 g2 g3
      gi_wp2_with fail
      refine CallsIn.wr (puts_c _ _ _ _ G1.out (by simp; omega) (Nat.le_trans (nmB_size x) (by omega)) hle3) ?_
      rintro e w' ⟨rfl, g1, g2, g3⟩
      have HQ := Lib.hid (FIN.out _ w' (by rw [joined_snoc, if_neg HP.out]; simp [nmB]) g1 (G2.out.trans g2) (G3.out.trans g3))
      clear g1 g2 g3
      gi_wp2_with fail
      exact HQ.out
  case done =>
    rintro D xs W1 hD rfl ⟨hj, hf, hb1⟩ hK
    have hpl : (joined (seqOf s 5)).length ≤ 50 := by
      have h1 := joined_le (seqOf s 5)
      have h3 := seqOf_len s 5
      omega
    have hle : w.heap.size ≤ W1.heap.size := hf.size
    have HJ := Lib.hid hj
    have HF := Lib.hid hf
    have HK := Lib.hid hK
    clear hj hf hb1 hK
    gi_wp2_with fail
    refine CallsIn.w (put_c _ _ 41 41 rfl _ HJ.out (by simp; omega) hle) ?_
    rintro e w3 ⟨rfl, g1, g2, g3⟩
    have hle3 : w.heap.size ≤ w3.heap.size := Nat.le_trans hle g2.size
    have hK3 := g3 _ _ HK.out (by intro h; cases h; omega) (fun _ _ h => by cases h)
    have G1 := Lib.hid g1
    have G2 := Lib.hid (HF.out.trans g2)
    have HK3 := Lib.hid hK3
    clear g1 g2 g3 hK3
    gi_wp2_with fail
    refine CallsIn.w (Tryz.Builder_String_any_k _ _ _ _ G1.out hle3) ?_
    rintro e w4 ⟨rfl, -, g2, g3⟩
    have hK4 := g3 _ _ HK3.out (by intro h; cases h; omega) (fun _ _ h => by cases h)
    have G4 := Lib.hid (G2.out.trans g2)
    have HK4 := Lib.hid hK4
    clear g2 g3 hK4
    gi_wp2_with fail
    refine ⟨by simp, .inl ⟨_, _, rfl, run_takeDeferred HK4.out, ?_⟩⟩
    exact ⟨_, results_tmp rfl _ _ _, rfl, G4.out.trans (belowK_b (w := w) (Nat.le_refl _) w4 D _ _ (by omega) HK4.out rfl rfl)⟩
  case stop =>
    rintro D c pre W1 hD hS h hK
    exact h.elim
end Go.Proofs.YtdpmnmiimfhlhaaGreatDoor
set_option linter.unusedVariables false
set_option linter.unusedSimpArgs false
namespace Go.Proofs.YtdpmnmiimfhlhaaGreatDoor
open Go Go.RowKit
attribute [local go_sem ↓] Go.wp_at_zero Go.wp_at_succ
set_option maxRecDepth 100000 in
set_option maxHeartbeats 2000000 in
theorem rqtextP_c (ad : Option Addr) (cp : Nat) (l : List (Nat × Nat)) (hl : l.length ≤ 1000) (hS : Small l) (w : World) (ho : PairsAt w ad l) :
    Calls Tryz.prog 56 #[.slice ad l.length cp] w fun e w' => e = .returned (.string (txt (setT l))) ∧ Below w.heap.size w w' := by
  obtain ⟨N, hN⟩ : ∃ N, N = l.length := ⟨_, rfl⟩
  rw [← hN] at hl ⊢
  have HO := Lib.hid ho
  have HN := Lib.hid hN
  have HS := Lib.hid hS
  clear ho hN hS
  go_enter Tryz.func56, Tryz.ntmps56
  go_wp2_with fail
  go_loopw [3, 4] (fun t3 t4 wr => ∃ (k : Nat) (S : ByteArray), k ≤ N ∧ t4 = .int .i64 k ∧ t3 = .string S ∧ S.size ≤ 22 * k ∧ Hid (S = txt (setT (l.take k))) ∧ Hid (Below w.heap.size w wr)) (fun _ i _ => N - (intOf i).toNat)
  case atStart => exact ⟨0, _, by omega, rfl, rfl, by show (0 : Nat) ≤ _; omega, rfl, Below.refl _ _⟩
  case round =>
    obtain ⟨k, S, hk, rfl, rfl, hsz, HT, HB⟩ := hrel
    by_cases hlt : k < N
    · have hkl : k < l.length := by rw [← HN.out]; exact hlt
      obtain ⟨x, y, hxy⟩ : ∃ x y, l[k] = (x, y) := ⟨_, _, rfl⟩
      have hb := HS.out _ (List.getElem_mem hkl)
      rw [hxy] at hb
      have hx : x ≤ 4294967295 := hb.1
      have hy : y ≤ 4294967295 := hb.2
      have how := HO.out.below HB.out
      obtain ⟨g, off, rfl, _, k0, k1⟩ := how k (x, y) (by rw [List.getElem?_eq_getElem hkl, hxy])
      have hT2 := setT_take hkl
      rw [hxy] at hT2
      have HT2 := Lib.hid hT2
      have hq1 : (k : Int) < N := by omega
      have hex : (txt (endT x)).size ≤ 10 := by rw [txt_size]; exact endT_len hx
      have hey : (txt (endT y)).size ≤ 10 := by rw [txt_size]; exact endT_len hy
      clear hb how hxy hkl hT2
      by_cases hk0 : k = 0
      · subst hk0
        simp only [Nat.zero_mul, Nat.add_zero] at k0 k1
        go_wp2_with fail
        refine (rone_c x hx wr).mono ?_
        rintro e w2 ⟨rfl, hb2⟩
        have HB2 : Hid (Below w.heap.size w w2) := HB.out.trans (hb2.mono HB.out.size)
        have c0 : w2.cell? ⟨g, off, none⟩ = some (.int .u32 x) := (hb2.cell (p := ⟨g, off, none⟩) (cell_lt k0)).trans k0
        have c1 : w2.cell? ⟨g, off + 1, none⟩ = some (.int .u32 y) := (hb2.cell (p := ⟨g, off + 1, none⟩) (cell_lt k1)).trans k1
        clear hb2 k0 k1
        by_cases hxy : x = y
        · have exy : ((x : Int) != (y : Int)) = false := by simp [hxy]
          have HXY := Lib.hid hxy
          clear hxy
          go_wp2_with fail
          go_quiet (fail)
          go_wp2_with fail
          go_roundw
          case rel =>
            have e1 : setT (l.take (0 + 1)) = setT (l.take 0) ++ [] ++ endT x := by rw [HT2.out]; simp [rangeT, HXY.out]
            refine ⟨0 + 1, _, by omega, by go_num, rfl, ?_, ?_, below_drewN HB2.out _⟩
            · simp only [ByteArray.size_append]; have : (⟨#[44]⟩ : ByteArray).size = 1 := rfl; have : (⟨#[58]⟩ : ByteArray).size = 1 := rfl; omega
            · show _ = txt _
              rw [e1, HT.out]; simp [txt_58, txt_append]
          case measure => simp [intOf]; omega
        · have exy : ((x : Int) != (y : Int)) = true := by simp; omega
          have HXY := Lib.hid hxy
          clear hxy
          go_wp2_with fail
          go_quiet (fail)
          go_wp2_with fail
          refine (rone_c y hy _).mono ?_
          rintro e w3 ⟨rfl, hb3⟩
          have HB3 : Hid (Below w.heap.size w w3) := (below_drewN HB2.out _).trans (hb3.mono HB2.out.size)
          clear hb3
          go_wp2_with fail
          go_roundw
          case rel =>
            have e1 : setT (l.take (0 + 1)) = setT (l.take 0) ++ [] ++ endT x ++ [58] ++ endT y := by rw [HT2.out]; simp [rangeT, HXY.out]
            refine ⟨0 + 1, _, by omega, by go_num, rfl, ?_, ?_, HB3.out⟩
            · simp only [ByteArray.size_append]; have : (⟨#[44]⟩ : ByteArray).size = 1 := rfl; have : (⟨#[58]⟩ : ByteArray).size = 1 := rfl; omega
            · show _ = txt _
              rw [e1, HT.out]; simp [txt_58, txt_append]
          case measure => simp [intOf]; omega
      · have qk : (0 : Int) < k := by omega
        go_wp2_with fail
        refine (rone_c x hx wr).mono ?_
        rintro e w2 ⟨rfl, hb2⟩
        have HB2 : Hid (Below w.heap.size w w2) := HB.out.trans (hb2.mono HB.out.size)
        have c0 : w2.cell? ⟨g, off + k * 2, none⟩ = some (.int .u32 x) := (hb2.cell (p := ⟨g, off + k * 2, none⟩) (cell_lt k0)).trans k0
        have c1 : w2.cell? ⟨g, off + k * 2 + 1, none⟩ = some (.int .u32 y) := (hb2.cell (p := ⟨g, off + k * 2 + 1, none⟩) (cell_lt k1)).trans k1
        clear hb2 k0 k1
        by_cases hxy : x = y
        · have exy : ((x : Int) != (y : Int)) = false := by simp [hxy]
          have HXY := Lib.hid hxy
          clear hxy
          go_wp2_with fail
          go_quiet (fail)
          go_wp2_with fail
          go_roundw
          case rel =>
            have e1 : setT (l.take (k + 1)) = setT (l.take k) ++ [44] ++ endT x := by rw [HT2.out, if_neg (by omega)]; simp [rangeT, HXY.out]
            refine ⟨k + 1, _, by omega, by go_num, rfl, ?_, ?_, below_drewN HB2.out _⟩
            · simp only [ByteArray.size_append]; have : (⟨#[44]⟩ : ByteArray).size = 1 := rfl; have : (⟨#[58]⟩ : ByteArray).size = 1 := rfl; omega
            · show _ = txt _
              rw [e1, HT.out]; simp [txt_44, txt_58, txt_append]
          case measure => simp [intOf]; omega
        · have exy : ((x : Int) != (y : Int)) = true := by simp; omega
          have HXY := Lib.hid hxy
          clear hxy
          go_wp2_with fail
          go_quiet (fail)
          go_wp2_with fail
          refine (rone_c y hy _).mono ?_
          rintro e w3 ⟨rfl, hb3⟩
          have HB3 : Hid (Below w.heap.size w w3) := (below_drewN HB2.out _).trans (hb3.mono HB2.out.size)
          clear hb3
          go_wp2_with fail
          go_roundw
          case rel =>
            have e1 : setT (l.take (k + 1)) = setT (l.take k) ++ [44] ++ endT x ++ [58] ++ endT y := by rw [HT2.out, if_neg (by omega)]; simp [rangeT, HXY.out]
            refine ⟨k + 1, _, by omega, by go_num, rfl, ?_, ?_, HB3.out⟩
            · simp only [ByteArray.size_append]; have : (⟨#[44]⟩ : ByteArray).size = 1 := rfl; have : (⟨#[58]⟩ : ByteArray).size = 1 := rfl; omega
            · show _ = txt _
              rw [e1, HT.out]; simp [txt_44, txt_58, txt_append]
          case measure => simp [intOf]; omega
    · obtain rfl : k = N := by omega
      go_wp2_with fail
      go_ret
      refine ⟨ret_s ?_, HB.out⟩
      rw [HT.out, List.take_of_length_le (by rw [← HN.out]; exact Nat.le_refl _)]
end Go.Proofs.YtdpmnmiimfhlhaaGreatDoor
set_option linter.unusedVariables false
set_option linter.unusedSimpArgs false
namespace Go.Proofs.YtdpmnmiimfhlhaaGreatDoor
open Go Go.RowKit
def flagT (i : Nat) : List UInt8 := ((nm i).drop 1).map upB
def flT (fl : Nat) : List UInt8 := match (seqOf fl 5).head? with
  | some i => flagT i
  | none => []
theorem flagT_len (i : Nat) : (flagT i).length ≤ 9 := by unfold flagT; have := (nm_le i).1; simp; omega
theorem nm_tail (i : Nat) : (nmB i).extract 1 (nmB i).size = txt ((nm i).drop 1) := by
  apply ByteArray.ext
  apply Array.ext'
  simp [txt, nmB, ByteArray.size]
  exact List.take_of_length_le (by simp)
set_option maxRecDepth 20000 in
theorem rFlag14_c (i : Nat) (hi : i < 5) (w : World) : Calls Tryz.prog 115 #[.int .i64 i] w fun e w' => e = .returned (.string (txt (flagT i))) ∧ Below w.heap.size w w' := by
  have kc := namesRow_cell w hi
  have hex := nm_tail i
  have hsz : (nmB i).size ≤ 9 ∧ 5 ≤ (nmB i).size := by
    have := nm_le i
    show (nm i).toArray.size ≤ 9 ∧ 5 ≤ (nm i).toArray.size
    simpa using this
  have CU := fun w => rtUpper_c ((nm i).drop 1) (by have := (nm_le i).1; simp; omega) w
  obtain ⟨B, hB⟩ : ∃ B, nmB i = B := ⟨_, rfl⟩
  obtain ⟨n, hn⟩ : ∃ n, B.size = n := ⟨_, rfl⟩
  rw [hB] at kc hex hsz
  rw [hn] at hex hsz
  obtain ⟨X, hX⟩ : ∃ X, txt ((nm i).drop 1) = X := ⟨_, rfl⟩
  rw [hX] at hex
  simp only [hX] at CU
  obtain ⟨U, hU⟩ : ∃ U, txt (flagT i) = U := ⟨_, rfl⟩
  have CU : Hid (∀ w, Calls Tryz.prog 61 #[.string X] w fun e w' => e = .returned (.string U) ∧ Below w.heap.size w w') := fun w => by rw [← hU]; exact CU w
  rw [hU]
  have q : (i : Int) < 5 := by omega
  have q0 : (0 : Int) ≤ i := by omega
  have q1 : (1 : Int) ≤ n := by omega
  have HB := Lib.hid hB
  have hb0 : Hid (Below w.heap.size w (w.alloc namesRow)) := (Below.refl _ _).alloc (Nat.le_refl _) _
  have HR := Lib.hid (fun w => rnames_c w)
  clear hB hX
  go_enter Tryz.func115, Tryz.ntmps115
  go_wp2_with (first | (go_at_call 145; refine (HR.out _).mono ?_; rintro e w1 ⟨rfl, rfl⟩) | (go_at_call 61; refine (CU.out _).mono ?_; rintro e w2 ⟨rfl, hb⟩; have H2 := Lib.hid hb; clear hb) | fail)
  go_ret
  exact ⟨rfl, hb0.out.trans (H2.out.mono hb0.out.size)⟩
set_option maxRecDepth 20000 in
theorem rflag14_c (fl : Nat) (hfl : fl < 256) (w : World) : Calls Tryz.prog 55 #[.int .u8 fl] w fun e w' => e = .returned (.string (txt (flT fl))) ∧ Below w.heap.size w w' := by
  have CB := Lib.hid (fun (k : Nat) (hk : k < 5) w => rbit_c fl k hfl hk w)
  have CF := Lib.hid (fun (k : Nat) (hk : k < 5) w => rFlag14_c k hk w)
  clear hfl
  go_enter Tryz.func55, Tryz.ntmps55
  go_wp2_with fail
  go_loopw [3] (fun t3 wr => wr = w ∧ ∃ k : Nat, k ≤ 5 ∧ t3 = .int .i64 k ∧ Hid (seqOf fl k = [])) (fun t3 _ => 5 - (intOf t3).toNat)
  case atStart => exact ⟨rfl, 0, Nat.zero_le _, rfl, rfl⟩
  case round =>
    obtain ⟨hww, k, hk, rfl, HE⟩ := hrel
    have hww := hww.symm
    subst hww
    by_cases hlt : k < 5
    · have hq : (k : Int) < 5 := by omega
      have C1 := CB.out k hlt w
      have hse := seqOf_succ fl k
      cases hb : bit fl k with
      | true =>
        rw [hb] at C1 hse
        have C1 := Lib.hid C1
        have C2 := Lib.hid (CF.out k hlt w)
        have HT : Hid (flT fl = flagT k) := by
          show _ = _
          have h1 : seqOf fl (k + 1) = [k] := by rw [hse, HE.out]; rfl
          have h2 := seqOf_prefix fl (show k + 1 ≤ 5 by omega)
          rw [h1] at h2
          obtain ⟨r, hr⟩ := h2
          unfold flT
          rw [← hr]
          rfl
        clear hse hb
        go_wp2_with (first | (go_at_call 114; refine C1.out.mono ?_; rintro e w1 ⟨rfl, rfl⟩) | (go_at_call 115; refine C2.out.mono ?_; rintro e w2 ⟨rfl, hb⟩; have H2 := Lib.hid hb; clear hb) | fail)
        go_ret
        exact ⟨by rw [HT.out]; rfl, H2.out⟩
      | false =>
        rw [hb] at C1 hse
        have C1 := Lib.hid C1
        have HE2 : Hid (seqOf fl (k + 1) = []) := by show _ = _; rw [hse]; exact HE.out
        clear hse hb
        go_wp2_with (first | (go_at_call 114; refine C1.out.mono ?_; rintro e w1 ⟨rfl, rfl⟩) | fail)
        refine ⟨⟨trivial, k + 1, by omega, by go_num, HE2.out⟩, ?_⟩
        simp [intOf]; omega
    · obtain rfl : k = 5 := by omega
      have HT : Hid (flT fl = []) := by show _ = _; unfold flT; rw [HE.out]; rfl
      go_wp2_with fail
      go_ret
      exact ⟨by rw [HT.out]; rfl, Below.refl _ _⟩
end Go.Proofs.YtdpmnmiimfhlhaaGreatDoor
set_option linter.unusedVariables false
set_option linter.unusedSimpArgs false
namespace Go.Proofs.YtdpmnmiimfhlhaaGreatDoor
open Go Go.RowKit
variable {W : World} {g : Nat} {s : RS}

theorem must_of (s : RS) (x : List UInt8) : (if wordB s x then wordS s x else .gone) = mustS s x := by
  unfold mustS wordS
  split <;> rfl
theorem numN_le (s : RS) : numN s ≤ 4294967295 := by
  unfold numN
  cases hn : numO s with
  | none => exact Nat.zero_le _
  | some v =>
    unfold numO numR at hn
    split at hn
    · cases hn
    · split at hn
      · split at hn
        · cases hn; assumption
        · cases hn
      · cases hn

set_option maxRecDepth 100000 in
set_option maxHeartbeats 1000000 in
theorem tkLiteral_c (h : PR W g s) (hok : s.Ok) (hl : s.l.length ≤ 100000) (hE : Errs W) (hg : Away g) : Calls Tryz.prog 184 #[pt g] W (Does W g (.string (txt (litV s))) (litS s)) := by
  have C1 := tkWord_c h hl [123] (by decide)
  have M1 : ∀ w, PR w g (wordS s [123]) → Calls Tryz.prog 161 #[pt g, .bool (wordB s [123])] w (Does w g (.tuple #[]) (mustS s [123])) := fun w hw => by
    have := tkmust_c hw (wordB s [123])
    rwa [must_of] at this
  have C2 : ∀ w, PR w g (mustS s [123]) → Errs w → Calls Tryz.prog 136 #[pt g] w (Does w g (.int .u32 (litN s)) (numS (mustS s [123]))) := fun w hw he =>
    tkNumber_c hw (hok.must _) (Nat.le_trans (must_le _ _) hl) he hg
  have hl2 : (numS (mustS s [123])).l.length ≤ 100000 := Nat.le_trans (num_le _) (Nat.le_trans (must_le _ _) hl)
  have C3 : ∀ w, PR w g (numS (mustS s [123])) → Calls Tryz.prog 99 #[pt g, .string (txt [125, 13, 10])] w (Does w g (.bool (wordB (numS (mustS s [123])) [125, 13, 10])) (wordS (numS (mustS s [123])) [125, 13, 10])) := fun w hw =>
    tkWord_c hw hl2 _ (by decide)
  have M3 : ∀ w, PR w g (wordS (numS (mustS s [123])) [125, 13, 10]) → Calls Tryz.prog 161 #[pt g, .bool (wordB (numS (mustS s [123])) [125, 13, 10])] w (Does w g (.tuple #[]) (litH s)) := fun w hw => by
    have := tkmust_c hw (wordB (numS (mustS s [123])) [125, 13, 10])
    rwa [must_of] at this
  have hn9 : litN s ≤ 4294967295 := numN_le _
  have hl3 := Nat.le_trans (litH_le s) hl
  unfold litV litS litB
  rw [show txt [123] = ⟨#[123]⟩ from rfl] at C1
  rw [show txt [125, 13, 10] = ⟨#[125, 13, 10]⟩ from rfl] at C3
  obtain ⟨v1, hv1⟩ : ∃ v, Value.bool (wordB s [123]) = v := ⟨_, rfl⟩
  obtain ⟨v3, hv3⟩ : ∃ v, Value.bool (wordB (numS (mustS s [123])) [125, 13, 10]) = v := ⟨_, rfl⟩
  obtain ⟨t3, ht3⟩ : ∃ t, wordS (numS (mustS s [123])) [125, 13, 10] = t := ⟨_, rfl⟩
  obtain ⟨s2, hs2⟩ : ∃ t, numS (mustS s [123]) = t := ⟨_, rfl⟩
  obtain ⟨s1, hs1⟩ : ∃ t, mustS s [123] = t := ⟨_, rfl⟩
  obtain ⟨t1, ht1⟩ : ∃ t, wordS s [123] = t := ⟨_, rfl⟩
  obtain ⟨n, hn⟩ : ∃ n, litN s = n := ⟨_, rfl⟩
  obtain ⟨⟨l, f⟩, hs3⟩ : ∃ t, litH s = t := ⟨_, rfl⟩
  rw [hv1, ht1] at C1
  rw [hv1, ht1, hs1] at M1
  rw [hs2, hs1, hn] at C2
  rw [hv3, ht3, hs2] at C3
  rw [hv3, ht3, hs3] at M3
  rw [hs3, hn]
  rw [hn] at hn9
  rw [hs3] at hl3
  dsimp only at hl3 ⊢
  have C1 := Lib.hid C1
  have M1 := Lib.hid M1
  have C2 := Lib.hid C2
  have C3 := Lib.hid C3
  have M3 := Lib.hid M3
  have HE := Lib.hid hE
  obtain ⟨rv, hrv⟩ : ∃ rv, (if (!f && (decide (n ≤ 65536) && decide (n ≤ l.length))) = true then l.take n else []) = rv := ⟨_, rfl⟩
  obtain ⟨rs, hrs⟩ : ∃ rs, (if (!f && (decide (n ≤ 65536) && decide (n ≤ l.length))) = true then (⟨l.drop n, false⟩ : RS) else .gone) = rs := ⟨_, rfl⟩
  rw [hrv, hrs]
  have e1 := txt_size l
  obtain ⟨N, hN⟩ : ∃ N, l.length = N := ⟨_, rfl⟩
  rw [hN] at hrv hrs e1 hl3
  have hex : (txt l).extract 0 n = txt (l.take n) := ext_take l
  have hed : (txt l).extract n N = txt (l.drop n) := ext_drop l hN.symm
  obtain ⟨B, hB⟩ : ∃ B, txt l = B := ⟨_, rfl⟩
  rw [hB] at e1 hex hed
  have HB := Lib.hid hB
  have HEX := Lib.hid hex
  have HED := Lib.hid hed
  have HRV := Lib.hid hrv
  have HRS := Lib.hid hrs
  clear h hE hv1 hv3 ht3 hs2 hs1 ht1 hn hs3 hrv hrs hN hB hex hed
  go_enter Tryz.func184, Tryz.ntmps184
  go_wp2_with fail
  refine C1.out.mono ?_
  rintro e w1 ⟨rfl, h1, k1⟩
  have D1 := Lib.hid (M1.out _ h1)
  have K1 := Lib.hid k1
  clear h1 k1
  go_wp2_with fail
  refine D1.out.mono ?_
  rintro e w2 ⟨rfl, h2, k2⟩
  have K2 := Lib.hid (K1.out.trans k2)
  have D2 := Lib.hid (C2.out _ h2 (HE.out.tk K2.out hg))
  clear h2 k2
  go_wp2_with fail
  refine D2.out.mono ?_
  rintro e w3 ⟨rfl, h3, k3⟩
  have K3 := Lib.hid (K2.out.trans k3)
  have D3 := Lib.hid (C3.out _ h3)
  clear h3 k3
  go_wp2_with fail
  refine D3.out.mono ?_
  rintro e w4 ⟨rfl, h4, k4⟩
  have K4 := Lib.hid (K3.out.trans k4)
  have D4 := Lib.hid (M3.out _ h4)
  clear h4 k4
  go_wp2_with fail
  refine D4.out.mono ?_
  rintro e w5 ⟨rfl, h5, k5⟩
  have K5 := Lib.hid (K4.out.trans k5)
  obtain ⟨c0, c1, hb, f0, f1⟩ := h5.facts
  dsimp only at c0 c1
  rw [HB.out] at c0
  have H5 := Lib.hid h5
  have CF := Lib.hid (tkFail_c h5)
  clear h5 k5 C1 M1 C2 C3 M3 D1 D2 D3 D4 K1 K2 K3 K4
  cases f with
  | true =>
    have HQ : Hid ([] = rv ∧ RS.gone = rs) := ⟨by rw [← HRV.out]; rfl, by rw [← HRS.out]; rfl⟩
    go_wp2_with fail
    refine CF.out.mono ?_
    rintro e w6 ⟨rfl, h6, k6⟩
    have H6 := Lib.hid h6
    have K6 := Lib.hid (K5.out.trans k6)
    clear h6 k6
    go_wp2_with fail
    go_ret
    exact ⟨by rw [← HQ.out.1]; rfl, HQ.out.2 ▸ H6.out, K6.out⟩
  | false =>
    by_cases h1 : n ≤ 65536
    · have q1 : ¬ (65536 : Int) < n := by omega
      by_cases h2 : n ≤ N
      · have q2 : ¬ (N : Int) < n := by omega
        have q3 : (n : Int) ≤ N := by omega
        have HQ : Hid (l.take n = rv ∧ (⟨l.drop n, false⟩ : RS) = rs) := ⟨by rw [← HRV.out]; simp [h1, h2], by rw [← HRS.out]; simp [h1, h2]⟩
        go_wp2_with fail
        go_ret
        refine ⟨by rw [← HQ.out.1, ← HEX.out]; rfl, ?_, K5.out.trans (Tk.set _ _ _)⟩
        rw [← HQ.out.2]
        have h7 := H5.out.set0 (l.drop n)
        rw [← HED.out] at h7
        exact h7
      · have q2 : (N : Int) < n := by omega
        have HQ : Hid ([] = rv ∧ RS.gone = rs) := ⟨by rw [← HRV.out]; simp [h2], by rw [← HRS.out]; simp [h2]⟩
        go_wp2_with fail
        refine CF.out.mono ?_
        rintro e w6 ⟨rfl, h6, k6⟩
        have H6 := Lib.hid h6
        have K6 := Lib.hid (K5.out.trans k6)
        clear h6 k6
        go_wp2_with fail
        go_ret
        exact ⟨by rw [← HQ.out.1]; rfl, HQ.out.2 ▸ H6.out, K6.out⟩
    · have q1 : (65536 : Int) < n := by omega
      have HQ : Hid ([] = rv ∧ RS.gone = rs) := ⟨by rw [← HRV.out]; simp [h1], by rw [← HRS.out]; simp [h1]⟩
      go_wp2_with fail
      refine CF.out.mono ?_
      rintro e w6 ⟨rfl, h6, k6⟩
      have H6 := Lib.hid h6
      have K6 := Lib.hid (K5.out.trans k6)
      clear h6 k6
      go_wp2_with fail
      go_ret
      exact ⟨by rw [← HQ.out.1]; rfl, HQ.out.2 ▸ H6.out, K6.out⟩
end Go.Proofs.YtdpmnmiimfhlhaaGreatDoor

/-
  The last step of a law's row.
  Keys of a search, as trees; how a key of the document lies; an argument that is a key, opened.
  How many keys a key has (the law's own count): contract.
  A range over a function, for iterators that turn some elder blocks too (a map that they share): XIter's law with these blocks told, and with what the iterator leaves behind.
  A frame with many marks: a loop each of whose rounds ranges over a function.
  The walk through a key and all below it, begun: keys in a row, each ahead of what stands below it; what the iterator has captured.
  A range over a function, a round of it told that the loop's record is there.
  The walk through a key and all below it: the iterator's step.
  slices.IndexFunc, slices.ContainsFunc over a row of keys: a contract for each closure. (Made by mkSk3.py.)
  The document's Same of two keys: contract.
  Whether a key may be, by the document: lists and what is shared by the texts of its kinds. MADE by wip/tools/mkKy7.py.
  Is it just one of the five flags, by the program: a contract.
  strings.Builder at this program: copyCheck, WriteByte, WriteString (their closures here are not the shelf's).
-/
import Derived.Test.YtpnnchpaaopdcaaGreatDoorZB04
import Derived.Test.YtpnnchpaaopdcaaGreatDoorRows
import Derived.WalkKit
import Derived.ProofKit
import Derived.OpenShut
import Derived.Stop.Joined
import Derived.ChangeSame
import Derived.Carry
import Derived.ChangeOld
import Derived.Deep.Slices
import Derived.Deep.Fields
import Derived.BigQuiet
import Derived.Deep.QuietTactic
import Derived.Test.YtpnnchpaaopdcaaGreatDoorZB01
import Derived.RangeFuncLeaves
import Derived.OwnWalkIn
import Derived.Deep.CutRange
import Derived.LoopTactic
import Derived.Deep.RegionHeld3
import Derived.Lib.Strings
import Derived.Laws.StructEq
import Derived.Lib.OthersKept
import Derived.Lib.FrozenHead2
import Derived.WalkLawsBesides
set_option linter.unusedVariables false
set_option linter.unusedSimpArgs false
namespace Go.Proofs.YtpnnchpaaopdcaaGreatDoor
open Go Go.ChangeShapes Go.WideShapes Go.ChangeAt Go.WideElems Go.RowKit
theorem own : ownKnob Tryz.prog.godebug = none := by kernel_rfl
theorem post_law {H : Type} {enc : TypeId × Value → H} {P : Program} {f : Func} {s : ChangeSpec} {apart fresh handsOn : Bool} {W W' : World} {args : Array Value} {v : Value} {ds gs : List (DataW H)} {before pa : List MemPlace}
    (hW : DataW.Whole enc P f.params.toList s.vars apart W args.toList ds gs before)
    (hres : ∀ (b : Nat) (sp : Nat → Bool) (hd : Bool), DataW.TrodAll enc P W' b sp hd f.resultTypes.toList (v.resultList f.resultTypes.size) (s.fn H (ds ++ gs)).results [])
    (hargs : DataW.TrodAll enc P W' 0 (fun b => decide (b < W.heap.size)) true f.params.toList args.toList (s.fn H (ds ++ gs)).args pa)
    (hvars : DataW.TrodVars enc P W' (fun b => decide (b < W.heap.size)) s.vars (s.fn H (ds ++ gs)).vars [])
    (hps : before = pa) (hb : Below W.heap.size W W') : s.post enc P f apart fresh handsOn false W args v W' := by
  subst hps
  refine ⟨ds, gs, before, [], before, [], hW, hres _ _ _, hargs, hvars, ?_, fun h => by cases h⟩
  exact World.keptBut_mono (fun p hp => ⟨hp, .inr (.inl hp)⟩) (hb.frame (· ∈ before))
theorem args_below {H : Type} {enc : TypeId × Value → H} {P : Program} (hl : laidOutB P = true) {W W' : World} (hb : Below W.heap.size W W') :
    ∀ {ts : List TypeId} {vs : List Value} {ds : List (DataW H)} {ps : List MemPlace}, (ts.all fun t => P.readableRec t && decide (t < P.types.size)) = true → DataW.TrodAll enc P W 0 (fun _ => true) true ts vs ds ps →
      DataW.TrodAll enc P W' 0 (fun b => decide (b < W.heap.size)) true ts vs ds ps
  | [], vs, ds, ps, _, h => by
    obtain ⟨rfl, rfl, rfl⟩ := trodAll_nil h
    exact trodAll_mk0
  | t :: ts, vs, ds, ps, hr, h => by
    have hlt := h.lt
    obtain ⟨v, vs', d, ds', p, q, rfl, rfl, rfl, h0, h1⟩ := trodAll_cons h
    rw [List.all_cons, Bool.and_eq_true, Bool.and_eq_true] at hr
    exact trodAll_cons_mk (Below.trod hl hr.1.1 (of_decide_eq_true hr.1.2) h0 hb (fun x hx => hlt x (List.mem_append_left _ hx))) (args_below hl hb hr.2 h1)
theorem law_post {H : Type} {enc : TypeId × Value → H} {P : Program} {f : Func} {s : ChangeSpec} {apart fresh handsOn : Bool} {W W' : World} {args : Array Value} {ds gs : List (DataW H)} {before : List MemPlace} {tb : TypeId}
    (hl : laidOutB P = true) (hrt : f.resultTypes = #[tb]) (hub : P.underlying tb = some .bool) (hread : (f.params.toList.all fun t => P.readableRec t && decide (t < P.types.size)) = true) (hvs : s.vars = [])
    (hW : DataW.Whole enc P f.params.toList s.vars apart W args.toList ds gs before)
    (hfn : s.fn H (ds ++ gs) = { results := [.lit (.bool true)], args := ds }) (hb : Below W.heap.size W W') : s.post enc P f apart fresh handsOn false W args (.bool true) W' := by
  have hW2 := hW
  obtain ⟨p, q, hA, hV, hbef, hfz, hnd⟩ := hW
  rw [hvs] at hV
  obtain ⟨rfl, rfl⟩ := trodVars_none hV
  rw [List.append_nil] at hbef
  refine post_law (pa := p) hW2 (fun b sp hd => ?_) ?_ ?_ hbef hb
  · rw [hfn, hrt]
    exact trodAll_mk1 (shut_bool hub _)
  · rw [hfn]
    exact args_below hl hb hread hA
  · rw [hfn, hvs]
    rfl
theorem block_of_cell {W : World} {a : Addr} {v : Value} (h : W.cell? a = some v) : a.block < W.heap.size ∧ a.spot = none := by
  unfold World.cell? at h
  cases hb : W.heap[a.block]? with
  | none => rw [hb] at h; cases h
  | some o =>
    refine ⟨(Array.getElem?_eq_some_iff.1 hb).1, ?_⟩
    rw [hb] at h
    cases o with
    | cells c e fz =>
      cases hs : a.spot with
      | none => rfl
      | some x => simp [hs] at h
    | _ => cases h
end Go.Proofs.YtpnnchpaaopdcaaGreatDoor
namespace Go.Proofs.YtpnnchpaaopdcaaGreatDoor
open Go Go.ChangeShapes Go.WideShapes Go.ChangeAt Go.RowKit Go.Deep
inductive KT where
  | mk (kind : Int) (flag : Nat) (set : List (Nat × Nat)) (n : Nat) (s : List UInt8) (kids : List KT) (sp : Option Addr) (scap : Nat) (kp : Option Addr) (kcap : Nat) : KT
def KT.kids : KT → List KT | .mk _ _ _ _ _ kids _ _ _ _ => kids
def KT.cells : KT → List Value | .mk kind flag set n s kids sp scap kp kcap => [.int .i64 kind, .int .u8 flag, .slice sp set.length scap, .int .u32 n, .string (txt s), .slice kp kids.length kcap]
def KT.val (k : KT) : Value := .agg k.cells.toArray
mutual
def KeyC (W : World) : KT → Prop
  | .mk kind flag set n s kids sp scap kp kcap => flag < 256 ∧ n ≤ 4294967295 ∧ (set.length ≤ maxLen ∧ kids.length ≤ maxLen ∧ s.length ≤ maxLen) ∧ PairsAt W sp set ∧ KidsC W kids kp 0
def KidsC (W : World) : List KT → Option Addr → Nat → Prop
  | [], _, _ => True
  | k :: r, kp, i => (∃ (b off : Nat), kp = some ⟨b, off, none⟩ ∧ b < W.heap.size ∧ (∀ j u, k.cells[j]? = some u → W.cell? ⟨b, off + i * 6 + j, none⟩ = some u) ∧ KeyC W k) ∧ KidsC W r kp (i + 1)
end
mutual
theorem KeyC.below {W W' : World} (hb : Below W.heap.size W W') : ∀ (k : KT), KeyC W k → KeyC W' k
  | .mk kind flag set n s kids sp scap kp kcap, h => by
    unfold KeyC at h ⊢
    obtain ⟨h2, h3, hm, h4, h5⟩ := h
    exact ⟨h2, h3, hm, h4.below hb, KidsC.below hb kids kp 0 h5⟩
theorem KidsC.below {W W' : World} (hb : Below W.heap.size W W') : ∀ (r : List KT) (kp : Option Addr) (i : Nat), KidsC W r kp i → KidsC W' r kp i
  | [], kp, i, h => by unfold KidsC; trivial
  | k :: r, kp, i, h => by
    unfold KidsC at h ⊢
    obtain ⟨⟨b, off, h1, h2, h3, h4⟩, h5⟩ := h
    exact ⟨⟨b, off, h1, Nat.lt_of_lt_of_le h2 hb.size, fun j u hu => (hb.cell (p := ⟨b, _, none⟩) h2).trans (h3 j u hu), KeyC.below hb k h4⟩, KidsC.below hb r kp (i + 1) h5⟩
end
theorem KidsC.at {W : World} : ∀ (r : List KT) (kp : Option Addr) (i j : Nat) (k : KT), KidsC W r kp i → r[j]? = some k →
    ∃ (b off : Nat), kp = some ⟨b, off, none⟩ ∧ b < W.heap.size ∧ (∀ q u, k.cells[q]? = some u → W.cell? ⟨b, off + (i + j) * 6 + q, none⟩ = some u) ∧ KeyC W k
  | [], kp, i, j, k, h, hj => by simp at hj
  | k0 :: r, kp, i, 0, k, h, hj => by
    unfold KidsC at h
    simp at hj
    subst hj
    exact h.1
  | k0 :: r, kp, i, j + 1, k, h, hj => by
    unfold KidsC at h
    have := KidsC.at r kp (i + 1) j k h.2 (by simpa using hj)
    rw [show i + 1 + j = i + (j + 1) from by omega] at this
    exact this
theorem kids_of {W : World} : ∀ (r : List KT) (kp : Option Addr) (i : Nat), (∀ j k, r[j]? = some k → ∃ (b off : Nat), kp = some ⟨b, off, none⟩ ∧ b < W.heap.size ∧ (∀ q u, k.cells[q]? = some u → W.cell? ⟨b, off + (i + j) * 6 + q, none⟩ = some u) ∧ KeyC W k) → KidsC W r kp i
  | [], kp, i, h => by unfold KidsC; trivial
  | k0 :: r, kp, i, h => by
    unfold KidsC
    refine ⟨h 0 k0 rfl, kids_of r kp (i + 1) fun j k hj => ?_⟩
    have := h (j + 1) k (by simpa using hj)
    rw [show i + (j + 1) = i + 1 + j from by omega] at this
    exact this
theorem KT.ind {P : KT → Prop} (h : ∀ kind flag set n s kids sp scap kp kcap, (∀ k ∈ kids, P k) → P (.mk kind flag set n s kids sp scap kp kcap)) (k : KT) : P k :=
  KT.rec (motive_1 := P) (motive_2 := fun l => ∀ k ∈ l, P k) (fun kind flag set n s kids sp scap kp kcap ih => h kind flag set n s kids sp scap kp kcap ih)
    (fun k hk => by simp at hk) (fun a r ha hr k hk => by
      rcases List.mem_cons.1 hk with e | hk
      · rw [e]; exact ha
      · exact hr k hk) k
theorem u8_natK {a : Int} (h : (Lit.int .u8 a).wf = true) : ∃ n : Nat, a = n ∧ n < 256 := by
  have h2 : 0 ≤ a ∧ a < 256 := by
    simp [Lit.wf, IntKind.min, IntKind.max, IntKind.bits, IntKind.signed] at h
    omega
  exact ⟨a.toNat, by omega, by omega⟩
theorem u32_natK {a : Int} (h : (Lit.int .u32 a).wf = true) : ∃ n : Nat, a = n ∧ n ≤ 4294967295 := by
  have h2 : 0 ≤ a ∧ a < 4294967296 := by
    simp [Lit.wf, IntKind.min, IntKind.max, IntKind.bits, IntKind.signed] at h
    omega
  exact ⟨a.toNat, by omega, by omega⟩
theorem rows_of_trod {H : Type} {enc : TypeId × Value → H} {P : Program} {W : World} {C : Nat} {t e : TypeId} {fuel : Nat} {cs : List Value} {x : DataW H × List MemPlace}
    (ht : P.underlying t = some (.slice e)) (hC : P.cellsOf e = C) (h0 : 0 < C) (h : DataW.trod enc P W 0 (fun _ => true) true fuel t cs = some x) :
    cs = [.slice none 0 0] ∨ ∃ (a : Addr) (len cap n : Nat), cs = [.slice (some a) len cap] ∧ fuel = n + 1 ∧ len ≤ maxLen ∧
      ∀ i, i < len → ∃ b off, a = ⟨b, off, none⟩ ∧ b < W.heap.size ∧ ∃ (cells : List Value) (y : DataW H × List MemPlace), cells.length = C ∧ (∀ k u, cells[k]? = some u → W.cell? ⟨b, off + i * C + k, none⟩ = some u) ∧
        DataW.trod enc P W 0 (fun _ => true) true n e cells = some y := by
  rcases DataW.trod_slice ht h with ⟨hcs, _⟩ | ⟨a, len, cap, elems, rest, n, hfu, hcs, _, _, hl, hm, hlen, hel, _, _⟩
  · exact .inl hcs
  · refine .inr ⟨a, len, cap, n, hcs, hfu, by omega, fun i hil => ?_⟩
    have row : ∀ i', i' < len → ∃ (cells : List Value) (y : DataW H × List MemPlace), cells.length = C ∧ (∀ k u, cells[k]? = some u → W.cell? (a.add (i' * C + k)) = some u) ∧ DataW.trod enc P W 0 (fun _ => true) true n e cells = some y := by
      intro i' hi'
      have h1 := hel i' hi'
      rw [List.getElem?_eq_getElem (by omega), hC, Option.bind_eq_some_iff] at h1
      obtain ⟨cells, hcells, htr⟩ := h1
      obtain ⟨_, hlen, hat⟩ := World.cells?_some hcells
      refine ⟨cells, _, hlen, fun k u hk => ?_, htr⟩
      have hkl : k < C := by have := (List.getElem?_eq_some_iff.1 hk).1; omega
      rw [← Go.Deep.add_add, hat k hkl, hk]
    obtain ⟨b, o, s⟩ := a
    obtain ⟨cells0, y0, hl0, hc0, _⟩ := row 0 (by omega)
    obtain ⟨u0, hu0⟩ : ∃ u, cells0[0]? = some u := ⟨_, List.getElem?_eq_getElem (by omega)⟩
    have hx := hc0 0 u0 hu0
    have hs := (block_of_cell hx).2
    have hb := (block_of_cell hx).1
    simp only [Nat.zero_mul, Nat.add_zero, Addr.add, if_true] at hs hb
    subst hs
    obtain ⟨cells, y, hlc, hc, htr⟩ := row i hil
    refine ⟨b, o, rfl, hb, cells, y, hlc, fun k u hk => ?_, htr⟩
    rw [← hc k u hk]
    congr 1
    unfold Addr.add
    split
    · rename_i e; rw [Nat.add_assoc, e]; rfl
    · rw [Nat.add_assoc]
theorem list_of {α : Type} [Inhabited α] {len : Nat} {Q : Nat → α → Prop} (h : ∀ i, i < len → ∃ x, Q i x) : ∃ l : List α, l.length = len ∧ ∀ i x, l[i]? = some x → Q i x := by
  have hq : ∀ i, ∃ x : α, i < len → Q i x := fun i => by
    by_cases hi : i < len
    · obtain ⟨x, hx⟩ := h i hi; exact ⟨x, fun _ => hx⟩
    · exact ⟨default, fun h => absurd h hi⟩
  obtain ⟨f, hf⟩ := Classical.skolem.1 hq
  refine ⟨(List.range len).map f, by simp, fun i x hx => ?_⟩
  have hi : i < len := by have := (List.getElem?_eq_some_iff.1 hx).1; simpa using this
  have hx2 : x = f i := by simpa [hi] using hx.symm
  subst hx2
  exact hf i hi
instance : Inhabited KT := ⟨.mk 0 0 [] 0 [] [] none 0 none 0⟩
end Go.Proofs.YtpnnchpaaopdcaaGreatDoor
namespace Go.Proofs.YtpnnchpaaopdcaaGreatDoor
open Go Go.RowKit
mutual
def sizeK : KT → Nat
  | .mk _ _ set _ s kids _ _ _ _ => if 2000 < s.length ∨ 80 < set.length then 201 else min (sizeR kids 1) 201
def sizeR : List KT → Nat → Nat
  | [], n => n
  | k :: r, n => if n ≤ 200 then sizeR r (n + sizeK k) else n
end
theorem sizeK_le (k : KT) : sizeK k ≤ 201 := by
  cases k
  unfold sizeK
  split <;> omega
theorem sizeR_go {l : List KT} {j n : Nat} {k : KT} (hk : l[j]? = some k) (hn : n ≤ 200) : sizeR (l.drop j) n = sizeR (l.drop (j + 1)) (n + sizeK k) := by
  obtain ⟨hj, rfl⟩ := List.getElem?_eq_some_iff.1 hk
  rw [List.drop_eq_getElem_cons hj, sizeR, if_pos hn]
theorem sizeR_stop {l : List KT} {j n : Nat} (h : l.length ≤ j ∨ 200 < n) : sizeR (l.drop j) n = n := by
  rcases h with h | h
  · rw [List.drop_eq_nil_of_le h, sizeR]
  · cases l.drop j with
    | nil => rw [sizeR]
    | cons a r => rw [sizeR, if_neg (by omega)]
theorem six_cells {W w : World} {t : TypeId} {c0 c1 c2 c3 c4 c5 : Value} {D : Nat} (hb : Below D (W.alloc (.cells #[c0, c1, c2, c3, c4, c5] t)) w) (hD : W.heap.size < D) :
    w.cell? ⟨W.heap.size, 0, none⟩ = some c0 ∧ w.cell? ⟨W.heap.size, 1, none⟩ = some c1 ∧ w.cell? ⟨W.heap.size, 2, none⟩ = some c2 ∧ w.cell? ⟨W.heap.size, 3, none⟩ = some c3 ∧ w.cell? ⟨W.heap.size, 4, none⟩ = some c4 ∧ w.cell? ⟨W.heap.size, 5, none⟩ = some c5 := by
  have h : w.heap[W.heap.size]? = some (.cells #[c0, c1, c2, c3, c4, c5] t (0, 0)) := (hb.block _ hD).trans (heap_alloc_new W _)
  refine ⟨?_, ?_, ?_, ?_, ?_, ?_⟩ <;> (unfold World.cell?; rw [h]; rfl)
set_option maxRecDepth 100000 in
set_option maxHeartbeats 4000000 in
theorem size_c (k : KT) : ∀ W, KeyC W k → Calls Tryz.prog 11 #[k.val] W fun e w' => e = .returned (.int .i64 (sizeK k)) ∧ Below W.heap.size W w' := by
  induction k using KT.ind with
  | h kind flag set n s kids sp scap kp kcap ih =>
    intro W hK
    have IH := Lib.hid ih
    unfold KeyC at hK
    obtain ⟨hfl, hn, ⟨_, hkm, _⟩, hset, hkids⟩ := hK
    unfold maxLen at hkm
    have HKids := Lib.hid hkids
    show Calls Tryz.prog 11 #[.agg #[.int .i64 kind, .int .u8 flag, .slice sp set.length scap, .int .u32 n, .string (txt s), .slice kp kids.length kcap]] W _
    have hSZ : Hid (sizeK (.mk kind flag set n s kids sp scap kp kcap) = if 2000 < s.length ∨ 80 < set.length then 201 else min (sizeR kids 1) 201) := by show _ = _; rw [sizeK]
    obtain ⟨Z, hZ⟩ : ∃ Z, sizeK (.mk kind flag set n s kids sp scap kp kcap) = Z := ⟨_, rfl⟩
    rw [hZ] at hSZ ⊢
    have e1 := txt_size s
    obtain ⟨X, hX⟩ : ∃ X, txt s = X := ⟨_, rfl⟩
    obtain ⟨M, hM⟩ : ∃ M, set.length = M := ⟨_, rfl⟩
    obtain ⟨N, hN⟩ : ∃ N, kids.length = N := ⟨_, rfl⟩
    rw [hX] at e1 ⊢
    rw [hM] at hSZ ⊢
    rw [hN] at hkm ⊢
    have HN := Lib.hid hN
    have hb0 : Below W.heap.size W (W.alloc (.cells #[.int .i64 kind, .int .u8 flag, .slice sp M scap, .int .u32 n, .string X, .slice kp N kcap] 26)) := (Below.refl _ _).alloc (Nat.le_refl _) _
    have HB0 := Lib.hid hb0
    obtain ⟨w0, hw0⟩ : ∃ w0, W.alloc (.cells #[.int .i64 kind, .int .u8 flag, .slice sp M scap, .int .u32 n, .string X, .slice kp N kcap] 26) = w0 := ⟨_, rfl⟩
    have h6 := fun w (hb : Below w0.heap.size w0 w) => six_cells (W := W) (w := w) (t := 26) (c0 := .int .i64 kind) (c1 := .int .u8 flag) (c2 := .slice sp M scap) (c3 := .int .u32 n) (c4 := .string X) (c5 := .slice kp N kcap) (D := w0.heap.size) (by rw [hw0]; exact hb) (by rw [← hw0]; simp)
    have H6 := Lib.hid h6
    rw [hw0] at HB0
    have HW0 := Lib.hid hw0
    clear ih hkids hset hfl hn hZ hM hN hb0 hw0 h6
    by_cases hg : 2000 < s.length ∨ 80 < M
    · have HZ2 : Hid (Z = 201) := hSZ.out.trans (if_pos hg)
      obtain ⟨c0, c1, c2, c3, c4, c5⟩ := H6.out w0 (Below.refl _ _)
      by_cases g1 : 2000 < s.length
      · have q : (2000 : Int) < X.size := by rw [e1]; omega
        clear hX e1 g1 hg
        go_enter Tryz.func11, Tryz.ntmps11
        go_wp2_with fail
        go_ret
        exact ⟨by rw [HZ2.out]; rfl, by rw [HW0.out]; exact HB0.out⟩
      · have q : ¬ (2000 : Int) < X.size := by rw [e1]; omega
        have q2 : (80 : Int) < M := by omega
        clear hX e1 g1 hg
        go_enter Tryz.func11, Tryz.ntmps11
        go_wp2_with fail
        go_ret
        exact ⟨by rw [HZ2.out]; rfl, by rw [HW0.out]; exact HB0.out⟩
    · have HZ2 : Hid (Z = min (sizeR kids 1) 201) := hSZ.out.trans (if_neg hg)
      have q : ¬ (2000 : Int) < X.size := by rw [e1]; omega
      have q2 : ¬ (80 : Int) < M := by omega
      clear hX e1 hg
      go_enter Tryz.func11, Tryz.ntmps11
      go_wp2_with fail
      rw [HW0.out]
      go_loopw [3, 4] (fun t3 t4 wr => ∃ (j m : Nat), j ≤ N ∧ m ≤ 401 ∧ t3 = .int .i64 m ∧ t4 = .int .i64 j ∧ Hid (sizeR (kids.drop j) m = sizeR kids 1) ∧ Hid (Below w0.heap.size w0 wr)) (fun _ t4 _ => N - (intOf t4).toNat)
      case atStart => exact ⟨0, 1, Nat.zero_le _, by omega, rfl, rfl, rfl, Below.refl _ _⟩
      case round =>
        obtain ⟨j, m, hj, hm, rfl, rfl, HS, HB⟩ := hrel
        obtain ⟨_, _, _, _, _, c5⟩ := H6.out wr HB.out
        by_cases hgo : j < N ∧ m ≤ 200
        · obtain ⟨hlt, hm2⟩ := hgo
          have hq : (j : Int) < N := by omega
          have hq0 : (0 : Int) ≤ j := by omega
          have hq2 : (m : Int) ≤ 200 := by omega
          have hkj : kids[j]? = some (kids[j]'(by rw [HN.out]; exact hlt)) := List.getElem?_eq_getElem _
          obtain ⟨k1, hk1⟩ : ∃ k1, kids[j]'(by rw [HN.out]; exact hlt) = k1 := ⟨_, rfl⟩
          rw [hk1] at hkj
          have hmem : k1 ∈ kids := List.mem_of_getElem? hkj
          have hWr : Below W.heap.size W wr := HB0.out.trans (HB.out.mono HB0.out.size)
          obtain ⟨b, off, rfl, hb, hcs, hK1⟩ := KidsC.at kids kp 0 j k1 (KidsC.below hWr kids kp 0 HKids.out) hkj
          have C1 := IH.out k1 hmem wr hK1
          have hle := sizeK_le k1
          have HS2 : Hid (sizeR (kids.drop (j + 1)) (m + sizeK k1) = sizeR kids 1) := (sizeR_go hkj hm2).symm.trans HS.out
          rw [Nat.zero_add] at hcs
          cases k1 with
          | mk kind1 flag1 set1 n1 s1 kids1 sp1 scap1 kp1 kcap1 =>
            have d0 := hcs 0 _ rfl
            have d1 := hcs 1 _ rfl
            have d2 := hcs 2 _ rfl
            have d3 := hcs 3 _ rfl
            have d4 := hcs 4 _ rfl
            have d5 := hcs 5 _ rfl
            rw [Nat.add_zero] at d0
            obtain ⟨z, hz⟩ : ∃ z, sizeK (.mk kind1 flag1 set1 n1 s1 kids1 sp1 scap1 kp1 kcap1) = z := ⟨_, rfl⟩
            rw [hz] at C1 hle HS2
            have C1 : Hid (Calls Tryz.prog 11 #[.agg #[.int .i64 kind1, .int .u8 flag1, .slice sp1 set1.length scap1, .int .u32 n1, .string (txt s1), .slice kp1 kids1.length kcap1]] wr fun e w' => e = .returned (.int .i64 z) ∧ Below wr.heap.size wr w') := C1
            obtain ⟨o6, ho6⟩ : ∃ o6, off + j * 6 = o6 := ⟨_, rfl⟩
            rw [ho6] at d0 d1 d2 d3 d4 d5
            clear hcs hK1 hz hk1 hkj hmem hWr
            go_wp2_with (first | (refine C1.out.mono ?_; rintro e w1 ⟨rfl, hb1⟩; have H1 := Lib.hid hb1; clear hb1) | fail)
            go_roundw
            case rel => exact ⟨j + 1, m + z, by omega, by omega, by go_num, by go_num, HS2.out, HB.out.trans (H1.out.mono HB.out.size)⟩
            case measure => simp [intOf]; omega
        · have HT : Hid (sizeR kids 1 = m) := by
            show _ = _
            rw [← HS.out]
            exact sizeR_stop (by rw [HN.out]; omega)
          have hfin : Hid (Below W.heap.size W wr) := HB0.out.trans (HB.out.mono HB0.out.size)
          by_cases hlt : j < N
          · have hq : (j : Int) < N := by omega
            have hq2 : ¬ (m : Int) ≤ 200 := by omega
            go_wp2_with fail
            go_ret
            refine ⟨?_, hfin.out⟩
            rw [HZ2.out, HT.out]
            exact congrArg (fun x => Ending.returned (.int .i64 x)) (show (min (_ : Int) 201) = ((min _ 201 : Nat) : Int) by omega)
          · obtain rfl : j = N := by omega
            have hq : ¬ (j : Int) < j := by omega
            go_wp2_with fail
            go_ret
            refine ⟨?_, hfin.out⟩
            rw [HZ2.out, HT.out]
            exact congrArg (fun x => Ending.returned (.int .i64 x)) (show (min (_ : Int) 201) = ((min _ 201 : Nat) : Int) by omega)
structure ItselfM (T0 : TypeId → Prop) (D : Nat) (mut' : Nat → Prop) (A B : World) : Prop where
  os : B.os = A.os
  tape : B.tape = A.tape
  output : B.output = A.output
  size : A.heap.size ≤ B.heap.size
  below : ∀ k, k < D → ¬ mut' k → B.heap[k]? = A.heap[k]?
  same : ∀ (k : Nat) (c : Array Value) (e : TypeId) (fz : Nat × Nat), ¬ T0 e → A.heap[k]? = some (.cells c e fz) → B.heap[k]? = some (.cells c e fz)
  kind : ∀ (k : Nat) (o : Obj), k < D → mut' k → A.heap[k]? = some o → o.isCells = false → ∃ o', B.heap[k]? = some o' ∧ o'.isCells = false
theorem ItselfM.of {T0 D} {mut' : Nat → Prop} {A B : World} (h : Itself T0 D A B) : ItselfM T0 D mut' A B := ⟨h.os, h.tape, h.output, h.size, fun k hk _ => h.below k hk, h.same, fun k o hk _ ho hc => ⟨o, (h.below k hk).trans ho, hc⟩⟩
theorem ItselfM.mono {T0 T0' : TypeId → Prop} {D D' : Nat} {m m' : Nat → Prop} {A B : World} (h : ItselfM T0 D m A B) (hT : ∀ e, T0 e → T0' e) (hD : D' ≤ D) (hm : ∀ k, k < D' → m k → m' k) : ItselfM T0' D' m' A B :=
  ⟨h.os, h.tape, h.output, h.size, fun k hk hn => h.below k (by omega) (fun x => hn (hm k hk x)), fun k c e fz he => h.same k c e fz (fun x => he (hT e x)), fun k o hk _ ho hc => by
    by_cases hmk : m k
    · exact h.kind k o (by omega) hmk ho hc
    · exact ⟨o, (h.below k (by omega) hmk).trans ho, hc⟩⟩
theorem ItselfM.own {T0 : TypeId → Prop} {D D' : Nat} {m : Nat → Prop} {A B : World} (h : ItselfM T0 D m A B) (hD : D' ≤ D) (hm : ∀ k, m k → D' ≤ k) : Itself T0 D' A B :=
  ⟨h.os, h.tape, h.output, h.size, fun k hk => h.below k (by omega) (fun x => by have := hm k x; omega), h.same⟩
def IterM {α : Type} (P : Program) (g : Nat) (lb : Array Value) (encs : α → Array Value) (T0 : TypeId → Prop) (cap mut' : Nat → Prop) (capW : World → Prop)
    (step : List α → α → Prop) (S Sp : List α → Prop) (E : World → Prop) : Prop :=
  ∀ (l : Nat) (T : TypeId → Prop) (J Jx : List α → World → Prop) (W : World), capW W → (∀ e, T e → ¬ T0 e) →
    (∀ s A B, J s A → ItselfM T0 W.heap.size mut' A B → J s B) → (∀ s A B, Jx s A → ItselfM T0 W.heap.size mut' A B → Jx s B) →
    (∀ pre x W1, J pre W1 → step pre x → YieldAt Fence.wide 0 P l (encs x) W1 fun e W' =>
      Keeps T cap W.heap.size W1 W' ∧ ((e = .returned (.bool true) ∧ J (pre ++ [x]) W') ∨ (e = .returned (.bool false) ∧ Jx (pre ++ [x]) W'))) →
    J [] W →
    Calls P g (#[.func (.yield l) #[] #[]] ++ lb) W fun e W' => (∃ v, e = .returned v) ∧ ((∃ xs, S xs ∧ J xs W' ∧ E W') ∨ (∃ pre, Sp pre ∧ Jx pre W'))
theorem Iter.toM {α : Type} {P : Program} {g : Nat} {lb : Array Value} {encs : α → Array Value} {T0 : TypeId → Prop} {cap : Nat → Prop} {capW : World → Prop} {step : List α → α → Prop} {S Sp : List α → Prop}
    (h : Iter P g lb encs T0 cap capW step S Sp) : IterM P g lb encs T0 cap (fun _ => False) capW step S Sp (fun _ => True) := by
  intro l T J Jx W hc hT hJ hJx hY h0
  refine (h l T J Jx W hc hT (fun s A B hs hi => hJ s A B hs (ItselfM.of hi)) (fun s A B hs hi => hJx s A B hs (ItselfM.of hi)) hY h0).mono ?_
  rintro e W' ⟨hv, (⟨xs, h1, h2⟩ | h1)⟩
  · exact ⟨hv, .inl ⟨xs, h1, h2, trivial⟩⟩
  · exact ⟨hv, .inr h1⟩
variable {n : Nat} {P : Program}
set_option maxHeartbeats 1000000 in
theorem wpIn_rangeIterM {α : Type} {g : Operand} {ps : Array Tmp} {assign body : Code} {Q : Exit → Act → World → Prop} {a : Act} {w : World}
    {gf : Nat} {lb : Array Value} (hg : a.eval g = .func (.func gf) #[] lb) (eg : ∀ args w, (callFunc gf args).run P w = .ok (.enter gf args) w)
    {encs : α → Array Value} {T0 : TypeId → Prop} {cap mut' : Nat → Prop} {capW : World → Prop} {step : List α → α → Prop} {S Sp : List α → Prop} {E : World → Prop}
    (hit : IterM P gf lb encs T0 cap mut' capW step S Sp E) (hmut : ∀ k, mut' k → k < w.heap.size) (hE : ∀ A B l, w.heap.size ≤ l → E A → (∀ k, k ≠ l → B.heap[k]? = A.heap[k]?) → E B) (T : TypeId → Prop) (hT : ∀ e, T e → ¬ T0 e) (hps : ∀ x, (encs x).size = ps.size)
    (hcap : ∀ k, cap k → k < w.heap.size) (hcW : ∀ W, Below w.heap.size w W → capW W)
    (I : List α → World → Prop) (Ix : Code → List α → World → Prop)
    (hI : ∀ s A B, I s A → ItselfM T0 w.heap.size mut' A B → I s B) (hIx : ∀ c s A B, Ix c s A → ItselfM T0 w.heap.size mut' A B → Ix c s B) (h0 : I [] w)
    (hround : ∀ (l : Nat) (pre : List α) (x : α) (W : World), w.heap.size ≤ l → (∃ r, W.heap[l]? = some (.loop r)) → I pre W → step pre x →
      assign.wpIn (Fence.wide.inRound l) 0 P (Exit.then (fun a₁ W₁ => Keeps T cap w.heap.size W W₁ ∧ (∀ W₂, Itself T0 w.heap.size W₁ W₂ → W₂.heap.size = W₁.heap.size → (∃ r, W₂.heap[l]? = some (.loop r)) →
        (∀ k, k ≠ l → W₂.heap[k]? = W₁.heap[k]?) → body.wpIn (Fence.wide.inRound l) 0 P (bodyOf T cap w.heap.size I Ix (pre ++ [x]) W₂) a₁ W₂)) (fun _ _ _ => False))
        { tmps := (ps.zip (encs x)).foldl (fun t (p, v) => t.setIfInBounds p v) a.tmps, defers := [] } W)
    (hdone : ∀ (D : Nat) (xs : List α) (W : World), w.heap.size ≤ D → S xs → I xs W → E W → W.heap[D]? = some (.deferred (some [])) → Q .normal { a with defers := { target := .collected D, args := #[] } :: a.defers } W)
    (hstop : ∀ (D : Nat) (c : Code) (pre : List α) (W : World), w.heap.size ≤ D → Sp pre → Ix c pre W → W.heap[D]? = some (.deferred (some [])) →
      c.wpIn Fence.wide n P Q { a with defers := { target := .collected D, args := #[] } :: a.defers } W) :
    (Code.rangeFunc g ps assign body).wpIn Fence.wide n P Q a w := by
  refine wpIn_rangeFunc fun fn hfn => ?_
  obtain ⟨rec, hrec⟩ : ∃ rec : LoopState → Option Code → Loop, rec = fun st pe => { state := st, pending := pe, fn, tmps := a.tmps, params := ps, assign, body, defers := w.heap.size } := ⟨_, rfl⟩
  obtain ⟨W1, hW1⟩ : ∃ W1, (w.alloc (.deferred (some []))).alloc (.loop (rec .ready none)) = W1 := ⟨_, rfl⟩
  have hsz : W1.heap.size = w.heap.size + 2 := by rw [← hW1]; simp
  have hI01 : Itself T0 w.heap.size w W1 := by
    rw [← hW1]; exact (Itself.alloc T0 w _ (Nat.le_refl _)).trans (Itself.alloc T0 _ _ (by simp))
  have hL1 : W1.heap[w.heap.size + 1]? = some (.loop (rec .ready none)) := by
    rw [← hW1]; have := World.alloc_heap_new (w.alloc (.deferred (some []))) (.loop (rec .ready none)); rwa [World.size_alloc] at this
  have hK1 : W1.heap[w.heap.size]? = some (.deferred (some [])) := by
    rw [← hW1]; exact (Below.heap_alloc _ _ _ (by simp)).trans (World.alloc_heap_new w _)
  refine ⟨w.heap.size + 1, [{ target := .collected w.heap.size, args := #[] }], W1, { target := .fn (.func gf) lb, args := #[.func (.yield (w.heap.size + 1)) #[] #[]] }, W1, gf,
    #[.func (.yield (w.heap.size + 1)) #[] #[]] ++ lb, W1, ?_, ?_, fun _ _ => trivial, ?_, (fun h => by cases h), ?_⟩
  · rw [← hW1, hrec]; exact run_enterLoop_outer _ _ _ _ _
  · simp only [resolve, hg]
    simp [go_sem]
  · simp [invoke, go_sem, eg]
  refine callsIn_wide.2 ((hit (w.heap.size + 1) T
      (fun pre W => I pre W ∧ W.heap[w.heap.size + 1]? = some (.loop (rec .ready none)) ∧ W.heap[w.heap.size]? = some (.deferred (some [])))
      (fun pre W => ∃ c, Ix c pre W ∧ W.heap[w.heap.size + 1]? = some (.loop (rec .done (some c))) ∧ W.heap[w.heap.size]? = some (.deferred (some [])))
      W1 (hcW _ hI01.toBelow) hT ?_ ?_ ?_ ⟨hI _ _ _ h0 (ItselfM.of hI01), hL1, hK1⟩).mono ?_)
  · rintro s A B ⟨h1, h2, h3⟩ hAB
    rw [hsz] at hAB
    exact ⟨hI _ _ _ h1 (hAB.mono (fun _ h => h) (by omega) (fun _ _ h => h)), (hAB.below _ (by omega) (fun x => by have := hmut _ x; omega)).trans h2, (hAB.below _ (by omega) (fun x => by have := hmut _ x; omega)).trans h3⟩
  · rintro s A B ⟨c, h1, h2, h3⟩ hAB
    rw [hsz] at hAB
    exact ⟨c, hIx c _ _ _ h1 (hAB.mono (fun _ h => h) (by omega) (fun _ _ h => h)), (hAB.below _ (by omega) (fun x => by have := hmut _ x; omega)).trans h2, (hAB.below _ (by omega) (fun x => by have := hmut _ x; omega)).trans h3⟩
  · -- one round
    rintro pre x W ⟨hi, hl, hk⟩ hst
    have hy := run_yield (P := P) (args := encs x) hl (by rw [hrec]; exact hps x)
    rw [hrec] at hy
    refine ⟨fn, _, assign, body, hy, roundIn_of_wpIn hfn (wpIn_mono (hround _ pre x W (by omega) ⟨_, hl⟩ hi hst) ?_)⟩
    rintro e a₁ Wa hq
    cases e with
    | normal =>
      obtain ⟨hka, hnext⟩ := hq
      have hnc : ¬ cap (w.heap.size + 1) := fun h => by have := hcap _ h; omega
      have hkeep : ∀ {X Y : World}, Keeps T cap w.heap.size X Y → X.heap[w.heap.size]? = some (.deferred (some [])) → Y.heap[w.heap.size]? = some (.deferred (some [])) :=
        fun h h' => h.same _ _ h' (.inr ⟨Nat.le_refl _, fun _ _ _ _ e => by cases e⟩)
      have hkeepL : ∀ {X Y : World} {r : Loop}, Keeps T cap w.heap.size X Y → X.heap[w.heap.size + 1]? = some (.loop r) → Y.heap[w.heap.size + 1]? = some (.loop r) :=
        fun h h' => h.same _ _ h' (.inr ⟨by omega, fun _ _ _ _ e => by cases e⟩)
      have hl1 := hkeepL hka hl
      have hk1 := hkeep hka hk
      refine ⟨_, run_beginRound hl1 (by rw [hrec]), ?_⟩
      have hlt : w.heap.size + 1 < Wa.heap.size := (Array.getElem?_eq_some_iff.1 hl1).1
      have hit2 : Itself T0 w.heap.size Wa (Wa.putObj (w.heap.size + 1) (.loop { rec .ready none with state := .busy })) := Itself.putObj T0 Wa _ _ _ (by omega) hl1 rfl
      have hl2 : (Wa.putObj (w.heap.size + 1) (.loop { rec .ready none with state := .busy })).heap[w.heap.size + 1]? = some (.loop { rec .ready none with state := .busy }) := World.putObj_heap_same hlt
      have hk2 : (Wa.putObj (w.heap.size + 1) (.loop { rec .ready none with state := .busy })).heap[w.heap.size]? = some (.deferred (some [])) := (World.putObj_heap_other (by omega)).trans hk1
      have hkp : ∀ {X : World} (o' : Obj), Keeps T cap W1.heap.size X (X.putObj (w.heap.size + 1) o') := fun o' => Keeps.putObj T _ _ o' hnc (by omega)
      have hup : ∀ {X Y : World}, Keeps T cap w.heap.size X Y → Keeps T cap W1.heap.size X Y := fun h => h.mono (fun _ h => h) (by omega) (fun _ _ _ h => .inl h)
      have hkW2 : Keeps T cap W1.heap.size W (Wa.putObj (w.heap.size + 1) (.loop { rec .ready none with state := .busy })) := (hup hka).trans (hkp _)
      have fin : ∀ (jump : Option Code) (W3 : World), Keeps T cap w.heap.size (Wa.putObj (w.heap.size + 1) (.loop { rec .ready none with state := .busy })) W3 →
          (Instr.endRound (w.heap.size + 1) jump).run P W3 = .ok (.bool jump.isNone) (W3.putObj (w.heap.size + 1) (.loop (rec (if jump.isNone then .ready else .done) jump))) ∧
          Itself T0 w.heap.size W3 (W3.putObj (w.heap.size + 1) (.loop (rec (if jump.isNone then .ready else .done) jump))) ∧
          (W3.putObj (w.heap.size + 1) (.loop (rec (if jump.isNone then .ready else .done) jump))).heap[w.heap.size + 1]? = some (.loop (rec (if jump.isNone then .ready else .done) jump)) ∧
          (W3.putObj (w.heap.size + 1) (.loop (rec (if jump.isNone then .ready else .done) jump))).heap[w.heap.size]? = some (.deferred (some [])) ∧
          Keeps T cap W1.heap.size W (W3.putObj (w.heap.size + 1) (.loop (rec (if jump.isNone then .ready else .done) jump))) := fun jump W3 hk3 => by
        have hl3 := hkeepL hk3 hl2
        have hk3' := hkeep hk3 hk2
        have he := run_endRound (P := P) jump hl3
        rw [hrec] at he ⊢
        refine ⟨he, Itself.putObj T0 W3 _ _ _ (by omega) hl3 rfl, World.putObj_heap_same (Array.getElem?_eq_some_iff.1 hl3).1, (World.putObj_heap_other (by omega)).trans hk3', ?_⟩
        have := (hkW2.trans (hup hk3)).trans (hkp (X := W3) (.loop (rec (if jump.isNone then .ready else .done) jump)))
        rw [hrec] at this
        exact this
      refine wpIn_mono (hnext _ hit2 (by simp) ⟨_, hl2⟩ (fun k hk => World.putObj_heap_other hk)) ?_
      · rintro e a3 W3 hp
        cases e with
        | normal =>
          obtain ⟨hk3, hi3⟩ := hp
          obtain ⟨hr, hits, hl4, hk4, hkk⟩ := fin none W3 hk3
          exact ⟨_, _, hr, hkk, .inl ⟨rfl, hI _ _ _ hi3 (ItselfM.of hits), hl4, hk4⟩⟩
        | ret =>
          obtain ⟨hk3, hi3⟩ := hp
          obtain ⟨hr, hits, hl4, hk4, hkk⟩ := fin (some .ret) W3 hk3
          exact ⟨_, _, hr, hkk, .inr ⟨rfl, .ret, hIx _ _ _ _ hi3 (ItselfM.of hits), hl4, hk4⟩⟩
        | exit id =>
          obtain ⟨hk3, hi3⟩ := hp
          obtain ⟨hr, hits, hl4, hk4, hkk⟩ := fin (some (.exit id)) W3 hk3
          exact ⟨_, _, hr, hkk, .inr ⟨rfl, .exit id, hIx _ _ _ _ hi3 (ItselfM.of hits), hl4, hk4⟩⟩
        | goto t =>
          obtain ⟨hk3, hi3⟩ := hp
          obtain ⟨hr, hits, hl4, hk4, hkk⟩ := fin (some (.goto t)) W3 hk3
          exact ⟨_, _, hr, hkk, .inr ⟨rfl, .goto t, hIx _ _ _ _ hi3 (ItselfM.of hits), hl4, hk4⟩⟩
        | panic ch => exact hp.elim
        | outgrown => exact hp.elim
    | exit id => exact hq.elim
    | goto t => exact hq.elim
    | ret => exact hq.elim
    | panic ch => exact hq.elim
    | outgrown => exact hq.elim
  · rintro e W2 ⟨⟨v, rfl⟩, (⟨xs, hS, ⟨hi, hl, hk⟩, hEW⟩ | ⟨pre, hSp, c, hi, hl, hk⟩)⟩
    · refine ⟨none, _, by have := run_endLoop (P := P) hl (by rw [hrec]; simp); rw [hrec] at this; exact this, ?_⟩
      exact hdone _ xs _ (Nat.le_refl _) hS (hI _ _ _ hi (ItselfM.of (Itself.putObj T0 W2 _ _ _ (by omega) hl rfl))) (hE _ _ (w.heap.size + 1) (by omega) hEW (fun k hk => World.putObj_heap_other hk)) ((World.putObj_heap_other (by omega)).trans hk)
    · refine ⟨some c, _, by have := run_endLoop (P := P) hl (by rw [hrec]; simp); rw [hrec] at this; exact this, ?_⟩
      exact hstop _ c pre _ (Nat.le_refl _) hSp (hIx c _ _ _ hi (ItselfM.of (Itself.putObj T0 W2 _ _ _ (by omega) hl rfl))) ((World.putObj_heap_other (by omega)).trans hk)
end Go.Proofs.YtpnnchpaaopdcaaGreatDoor
namespace Go.Proofs.YtpnnchpaaopdcaaGreatDoor
open Go Go.RowKit
def markOf (D : Nat) : Deferred := { target := .collected D, args := #[] }
def Marks (lo : Nat) (ms : List Deferred) (W : World) : Prop := ∃ Ds : List Nat, ms = Ds.map markOf ∧ Ds.Nodup ∧ ∀ D, D ∈ Ds → lo ≤ D ∧ W.heap[D]? = some (.deferred (some []))
variable {lo : Nat} {ms : List Deferred} {W W' : World}
theorem Marks.nil (lo : Nat) (W : World) : Marks lo [] W := ⟨[], rfl, .nil, by simp⟩
theorem Marks.cons {D : Nat} (h : Marks lo ms W) (hD : lo ≤ D) (hW : W.heap[D]? = some (.deferred (some []))) (hn : ∀ d, d ∈ ms → d ≠ markOf D) : Marks lo (markOf D :: ms) W := by
  obtain ⟨Ds, rfl, h1, h2⟩ := h
  refine ⟨D :: Ds, rfl, List.nodup_cons.2 ⟨fun hd => hn _ (List.mem_map.2 ⟨D, hd, rfl⟩) rfl, h1⟩, fun D' hD' => ?_⟩
  rcases List.mem_cons.1 hD' with rfl | hD'
  · exact ⟨hD, hW⟩
  · exact h2 D' hD'
theorem Marks.keep (h : Marks lo ms W) (hk : ∀ k, lo ≤ k → k < W.heap.size → W.heap[k]? = some (.deferred (some [])) → W'.heap[k]? = W.heap[k]?) : Marks lo ms W' := by
  obtain ⟨Ds, rfl, h1, h2⟩ := h
  exact ⟨Ds, rfl, h1, fun D hD => ⟨(h2 D hD).1, (hk D (h2 D hD).1 (Array.getElem?_eq_some_iff.1 (h2 D hD).2).1 (h2 D hD).2).trans (h2 D hD).2⟩⟩
theorem Marks.keep' (h : Marks lo ms W) (hk : ∀ k, markOf k ∈ ms → W'.heap[k]? = W.heap[k]?) : Marks lo ms W' := by
  obtain ⟨Ds, rfl, h1, h2⟩ := h
  exact ⟨Ds, rfl, h1, fun D hD => ⟨(h2 D hD).1, (hk D (List.mem_map.2 ⟨D, hD, rfl⟩)).trans (h2 D hD).2⟩⟩
theorem Marks.keeps {T : TypeId → Prop} {cap : Nat → Prop} {D : Nat} (h : Marks lo ms W) (hD : D ≤ lo) (hk : Keeps T cap D W W') : Marks lo ms W' :=
  h.keep fun k hk1 _ hk2 => by rw [hk2]; exact hk.same k _ hk2 (.inr ⟨by omega, fun c e fz _ h => by cases h⟩)
theorem Marks.lt (h : Marks lo ms W) {D : Nat} (hD : markOf D ∈ ms) : D < W.heap.size := by
  obtain ⟨Ds, rfl, h1, h2⟩ := h
  obtain ⟨D', hD', he⟩ := List.mem_map.1 hD
  unfold markOf at he
  cases he
  exact (Array.getElem?_eq_some_iff.1 (h2 D hD').2).1
theorem Marks.below (h : Marks lo ms W) (hb : Below W.heap.size W W') : Marks lo ms W' := h.keep fun k _ hk _ => hb.block k hk
theorem leaves_marks {F : Fence} {n : Nat} {P : Program} {fn : Func} {tmps : Array Value} {R : Ending → World → Prop} : ∀ (Ds : List Nat) (W : World), Ds.Nodup → (∀ D, D ∈ Ds → lo ≤ D ∧ W.heap[D]? = some (.deferred (some []))) →
    (∀ W', Itself (fun _ => False) lo W W' → LeavesIn F n P fn tmps R [] .returning W') → LeavesInM F n P fn tmps R (Ds.map markOf) .returning W := by
  intro Ds
  induction Ds with
  | nil => intro W _ _ hR; exact hR W (Itself.refl _ _ _)
  | cons D Ds ih =>
    intro W hnd hW hR
    obtain ⟨h1, h2⟩ := List.nodup_cons.1 hnd
    obtain ⟨h3, h4⟩ := hW D List.mem_cons_self
    have hi : Itself (fun _ => False) lo W (W.putObj D (.deferred none)) := Itself.putObj _ W D _ _ h3 h4 rfl
    refine ⟨by simp, .inl ⟨D, _, rfl, run_takeDeferred h4, ih _ h2 (fun D' hD' => ?_) (fun W' hW' => hR W' (hi.trans hW'))⟩⟩
    obtain ⟨h5, h6⟩ := hW D' (List.mem_cons_of_mem _ hD')
    exact ⟨h5, (World.putObj_heap_other (show D' ≠ D by rintro rfl; exact h1 hD')).trans h6⟩
theorem Marks.leaves {F : Fence} {n : Nat} {P : Program} {fn : Func} {tmps : Array Value} {R : Ending → World → Prop} (h : Marks lo ms W) (hR : ∀ W', Itself (fun _ => False) lo W W' → LeavesIn F n P fn tmps R [] .returning W') : LeavesInM F n P fn tmps R ms .returning W := by
  obtain ⟨Ds, rfl, h1, h2⟩ := h
  exact leaves_marks Ds W h1 h2 hR
end Go.Proofs.YtpnnchpaaopdcaaGreatDoor
namespace Go.Proofs.YtpnnchpaaopdcaaGreatDoor
open Go Go.RowKit
mutual
def preK : KT → List KT
  | .mk kind flag set n s kids sp scap kp kcap => .mk kind flag set n s kids sp scap kp kcap :: preKs kids
def preKs : List KT → List KT
  | [] => []
  | k :: r => preK k ++ preKs r
end
theorem preK_eq (k : KT) : preK k = k :: preKs k.kids := by cases k; rw [preK]; rfl
theorem preKs_app : ∀ (a b : List KT), preKs (a ++ b) = preKs a ++ preKs b
  | [], b => by rw [List.nil_append, preKs]; rfl
  | k :: a, b => by rw [List.cons_append, preKs, preKs, preKs_app a b, List.append_assoc]
theorem preKs_at {l : List KT} {i : Nat} {k : KT} (h : l[i]? = some k) : preKs (l.take (i + 1)) = preKs (l.take i) ++ preK k := by
  obtain ⟨hk, rfl⟩ := List.getElem?_eq_some_iff.1 h
  rw [List.take_succ_eq_append_getElem hk, preKs_app, preKs, preKs, List.append_nil]
theorem segK {l : List KT} {i : Nat} {k : KT} (h : l[i]? = some k) : ∃ t, preKs l = preKs (l.take i) ++ preK k ++ t := by
  refine ⟨preKs (l.drop (i + 1)), ?_⟩
  rw [← preKs_at h, ← preKs_app, List.take_append_drop]
mutual
theorem KeyC.same {W W' : World} (hs : W.heap.size ≤ W'.heap.size) (hb : ∀ j, j < W.heap.size → W'.heap[j]? = W.heap[j]?) : ∀ (k : KT), KeyC W k → KeyC W' k
  | .mk kind flag set n s kids sp scap kp kcap, h => by
    unfold KeyC at h ⊢
    obtain ⟨h2, h3, hm, h4, h5⟩ := h
    refine ⟨h2, h3, hm, fun i r hr => ?_, KidsC.same hs hb kids kp 0 h5⟩
    obtain ⟨b, off, e1, e2, e3, e4⟩ := h4 i r hr
    exact ⟨b, off, e1, Nat.lt_of_lt_of_le e2 hs, (World.cell?_of_block (a := ⟨b, _, none⟩) (hb b e2)).trans e3, (World.cell?_of_block (a := ⟨b, _, none⟩) (hb b e2)).trans e4⟩
theorem KidsC.same {W W' : World} (hs : W.heap.size ≤ W'.heap.size) (hb : ∀ j, j < W.heap.size → W'.heap[j]? = W.heap[j]?) : ∀ (r : List KT) (kp : Option Addr) (i : Nat), KidsC W r kp i → KidsC W' r kp i
  | [], kp, i, h => by unfold KidsC; trivial
  | k :: r, kp, i, h => by
    unfold KidsC at h ⊢
    obtain ⟨⟨b, off, h1, h2, h3, h4⟩, h5⟩ := h
    exact ⟨⟨b, off, h1, Nat.lt_of_lt_of_le h2 hs, fun j u hu => (World.cell?_of_block (a := ⟨b, _, none⟩) (hb b h2)).trans (h3 j u hu), KeyC.same hs hb k h4⟩, KidsC.same hs hb r kp (i + 1) h5⟩
end
def Box6 (W : World) (b : Nat) (k : KT) : Prop := W.heap[b]? = some (.cells k.cells.toArray 37 (0, 0))
theorem Box6.lt {W : World} {b : Nat} {k : KT} (h : Box6 W b k) : b < W.heap.size := (Array.getElem?_eq_some_iff.1 h).1
theorem Box6.cell {W : World} {b : Nat} {k : KT} (h : Box6 W b k) {j : Nat} {u : Value} (hu : k.cells[j]? = some u) : W.cell? ⟨b, j, none⟩ = some u := by
  have h' : W.heap[b]? = _ := h
  simp [World.cell?, h', hu]
theorem Box6.six {W : World} {b : Nat} {kind : Int} {flag n : Nat} {set : List (Nat × Nat)} {s : List UInt8} {kids : List KT} {sp kp : Option Addr} {scap kcap : Nat} (h : Box6 W b (.mk kind flag set n s kids sp scap kp kcap)) :
    W.cell? ⟨b, 0, none⟩ = some (.int .i64 kind) ∧ W.cell? ⟨b, 1, none⟩ = some (.int .u8 flag) ∧ W.cell? ⟨b, 2, none⟩ = some (.slice sp set.length scap) ∧ W.cell? ⟨b, 3, none⟩ = some (.int .u32 n) ∧ W.cell? ⟨b, 4, none⟩ = some (.string (txt s)) ∧ W.cell? ⟨b, 5, none⟩ = some (.slice kp kids.length kcap) :=
  ⟨h.cell rfl, h.cell rfl, h.cell rfl, h.cell rfl, h.cell rfl, h.cell rfl⟩
def skT0 (e : TypeId) : Prop := e = 37 ∨ e = 46
def capK (b1 H : Nat) (j : Nat) : Prop := j = b1 ∨ j < H
structure SKC (W0 : World) (b1 : Nat) (k : KT) (W : World) : Prop where
  bx : Box6 W b1 k
  sz : W0.heap.size ≤ W.heap.size
  sm : ∀ j, j < W0.heap.size → W.heap[j]? = W0.heap[j]?
variable {W0 W W' : World} {b1 : Nat} {k : KT}
theorem SKC.key (h : SKC W0 b1 k W) {x : KT} (hk : KeyC W0 x) : KeyC W x := KeyC.same h.sz h.sm x hk
theorem SKC.below (h : SKC W0 b1 k W) (hb : Below W.heap.size W W') : SKC W0 b1 k W' :=
  ⟨(hb.block _ h.bx.lt).trans h.bx, Nat.le_trans h.sz hb.size, fun j hj => (hb.block j (Nat.lt_of_lt_of_le hj h.sz)).trans (h.sm j hj)⟩
theorem obj_at {W : World} {j : Nat} (h : j < W.heap.size) : ∃ o, W.heap[j]? = some o := ⟨_, Array.getElem?_eq_getElem h⟩
theorem SKC.keeps {T : TypeId → Prop} {D : Nat} {cap : Nat → Prop} (h : SKC W0 b1 k W) (hk : Keeps T cap D W W') (hc : cap b1) (hc2 : ∀ j, j < W0.heap.size → cap j) : SKC W0 b1 k W' :=
  ⟨hk.same _ _ h.bx (.inl hc), Nat.le_trans h.sz hk.size, fun j hj => by
    obtain ⟨o, ho⟩ := obj_at (Nat.lt_of_lt_of_le hj h.sz)
    rw [hk.same j o ho (.inl (hc2 j hj)), ← ho, h.sm j hj]⟩
theorem SKC.itself {T0 : TypeId → Prop} {D : Nat} (h : SKC W0 b1 k W) (hi : Itself T0 D W W') (h1 : b1 < D) (h2 : W0.heap.size ≤ D) : SKC W0 b1 k W' :=
  ⟨(hi.below _ h1).trans h.bx, Nat.le_trans h.sz hi.size, fun j hj => (hi.below j (by omega)).trans (h.sm j hj)⟩
def IterK (k : KT) : Prop := ∀ (W0 : World) (b1 : Nat), KeyC W0 k → Iter Tryz.prog 132 #[.pointer (some ⟨b1, 0, none⟩)] (fun x : KT => #[x.val]) skT0 (capK b1 W0.heap.size) (SKC W0 b1 k)
  (fun pre x => pre ++ [x] <+: preK k) (fun xs => xs = preK k) (fun pre => pre <+: preK k)
set_option maxRecDepth 20000 in
theorem keys_c (k : KT) (W : World) : Calls Tryz.prog 73 #[k.val] W fun e w' => e = .returned (.func (.func 132) #[] #[.pointer (some ⟨W.heap.size, 0, none⟩)]) ∧ Box6 w' W.heap.size k ∧ Below W.heap.size W w' ∧ w'.heap.size = W.heap.size + 1 := by
  have h1 := heap_alloc_new W (.cells k.cells.toArray 37)
  have h2 : Below W.heap.size W (W.alloc (.cells k.cells.toArray 37)) := (Below.refl _ _).alloc (Nat.le_refl _) _
  have HH : Hid (Box6 (W.alloc (.cells k.cells.toArray 37)) W.heap.size k ∧ Below W.heap.size W (W.alloc (.cells k.cells.toArray 37)) ∧ (W.alloc (.cells k.cells.toArray 37)).heap.size = W.heap.size + 1) := ⟨h1, h2, by simp⟩
  clear h1 h2
  cases k with
  | mk kind flag set n s kids sp scap kp kcap =>
    unfold KT.val
    simp only [KT.cells] at HH ⊢
    go_enter Tryz.func73, Tryz.ntmps73
    go_wp2_with fail
    go_ret
    exact ⟨rfl, HH.out⟩
structure LoopK (W0 : World) (b1 lo : Nat) (k : KT) (l : Nat) (J : List KT → World → Prop) (i : Nat) (ms : List Deferred) (w : World) : Prop where
  kc : SKC W0 b1 k w
  yb : Boxed w lo 46 (.func (.yield l) #[] #[])
  jj : J (k :: preKs (k.kids.take i)) w
  mks : Marks lo ms w
structure RK (W0 : World) (b1 lo B : Nat) (k kid : KT) (l : Nat) (ms : List Deferred) (sz : Nat) (w : World) : Prop where
  kc : SKC W0 b1 k w
  yb : Boxed w lo 46 (.func (.yield l) #[] #[])
  mks : Marks lo ms w
  siz : sz ≤ w.heap.size
  kd : SKC W0 B kid w
structure RKS (W0 : World) (b1 lo B : Nat) (ms : List Deferred) (sz : Nat) : Prop where
  a1 : b1 < lo
  aH : W0.heap.size ≤ lo
  aB : lo < B
  az : B < sz
  ak : ∀ k, markOf k ∈ ms → k < sz ∧ lo ≤ k
variable {lo B l sz : Nat} {kid : KT} {ms : List Deferred}
theorem RK.itself (h : RK W0 b1 lo B k kid l ms sz W) (hs : RKS W0 b1 lo B ms sz) (hi : Itself skT0 sz W W') : RK W0 b1 lo B k kid l ms sz W' := by
  have h1 := hs.a1
  have h2 := hs.aH
  have h3 := hs.aB
  have h4 := hs.az
  exact ⟨h.kc.itself hi (by omega) (by omega), hi.boxed h.yb (.inl (by omega)), h.mks.keep' (fun j hj => hi.below j (hs.ak j hj).1), Nat.le_trans h.siz hi.size, h.kd.itself hi (by omega) (by omega)⟩
theorem RK.inner {T : TypeId → Prop} (h : RK W0 b1 lo B k kid l ms sz W) (hs : RKS W0 b1 lo B ms sz) (hT : ∀ e, T e → ¬ skT0 e) (hk : Keeps T (capK b1 W0.heap.size) lo W W') : Keeps T (capK B W0.heap.size) sz W W' := by
  have h3 := hs.aB
  have h4 := hs.az
  refine hk.mono (fun _ h => h) (by omega) (fun j o ho hj => ?_)
  rcases hj with rfl | hj
  · exact .inr ⟨by omega, fun c e fz he heq => by
      rw [show W.heap[j]? = _ from h.kd.bx] at ho
      rw [heq] at ho
      cases ho
      exact hT _ he (.inl rfl)⟩
  · exact .inl (.inr hj)
theorem RK.keeps {T : TypeId → Prop} (h : RK W0 b1 lo B k kid l ms sz W) (hs : RKS W0 b1 lo B ms sz) (hT : ∀ e, T e → ¬ skT0 e) (hk : Keeps T (capK b1 W0.heap.size) lo W W') : RK W0 b1 lo B k kid l ms sz W' := by
  have hki := h.inner hs hT hk
  exact ⟨h.kc.keeps hk (.inl rfl) (fun j hj => .inr hj), hk.boxed h.yb (.inr ⟨Nat.le_refl _, fun x => hT _ x (.inr rfl)⟩), h.mks.keeps (Nat.le_refl _) hk, Nat.le_trans h.siz hk.size, h.kd.keeps hki (.inl rfl) (fun j hj => .inr hj)⟩
end Go.Proofs.YtpnnchpaaopdcaaGreatDoor
namespace Go.Proofs.YtpnnchpaaopdcaaGreatDoor
open Go Go.RowKit
theorem ItselfM.plain {T0 : TypeId → Prop} {D : Nat} {A B : World} (h : ItselfM T0 D (fun _ => False) A B) : Itself T0 D A B := ⟨h.os, h.tape, h.output, h.size, fun k hk => h.below k hk (fun x => x), h.same⟩
theorem wpIn_rangeIterL {n : Nat} {P : Program} {α : Type} {g : Operand} {ps : Array Tmp} {assign body : Code} {Q : Exit → Act → World → Prop} {a : Act} {w : World}
    {gf : Nat} {lb : Array Value} (hg : a.eval g = .func (.func gf) #[] lb) (eg : ∀ args w, (callFunc gf args).run P w = .ok (.enter gf args) w)
    {encs : α → Array Value} {T0 : TypeId → Prop} {cap : Nat → Prop} {capW : World → Prop} {step : List α → α → Prop} {S Sp : List α → Prop}
    (hit : Iter P gf lb encs T0 cap capW step S Sp) (T : TypeId → Prop) (hT : ∀ e, T e → ¬ T0 e) (hps : ∀ x, (encs x).size = ps.size)
    (hcap : ∀ k, cap k → k < w.heap.size) (hcW : ∀ W, Below w.heap.size w W → capW W)
    (I : List α → World → Prop) (Ix : Code → List α → World → Prop)
    (hI : ∀ s A B, I s A → Itself T0 w.heap.size A B → I s B) (hIx : ∀ c s A B, Ix c s A → Itself T0 w.heap.size A B → Ix c s B) (h0 : I [] w)
    (hround : ∀ (l : Nat) (pre : List α) (x : α) (W : World), w.heap.size ≤ l → (∃ r, W.heap[l]? = some (.loop r)) → I pre W → step pre x →
      assign.wpIn (Fence.wide.inRound l) 0 P (Exit.then (fun a₁ W₁ => Keeps T cap w.heap.size W W₁ ∧ (∀ W₂, Itself T0 w.heap.size W₁ W₂ → W₂.heap.size = W₁.heap.size → (∃ r, W₂.heap[l]? = some (.loop r)) →
        (∀ k, k ≠ l → W₂.heap[k]? = W₁.heap[k]?) → body.wpIn (Fence.wide.inRound l) 0 P (bodyOf T cap w.heap.size I Ix (pre ++ [x]) W₂) a₁ W₂)) (fun _ _ _ => False))
        { tmps := (ps.zip (encs x)).foldl (fun t (p, v) => t.setIfInBounds p v) a.tmps, defers := [] } W)
    (hdone : ∀ (D : Nat) (xs : List α) (W : World), w.heap.size ≤ D → S xs → I xs W → W.heap[D]? = some (.deferred (some [])) → Q .normal { a with defers := { target := .collected D, args := #[] } :: a.defers } W)
    (hstop : ∀ (D : Nat) (c : Code) (pre : List α) (W : World), w.heap.size ≤ D → Sp pre → Ix c pre W → W.heap[D]? = some (.deferred (some [])) →
      c.wpIn Fence.wide n P Q { a with defers := { target := .collected D, args := #[] } :: a.defers } W) :
    (Code.rangeFunc g ps assign body).wpIn Fence.wide n P Q a w :=
  wpIn_rangeIterM hg eg hit.toM (fun _ h => h.elim) (fun _ _ _ _ _ _ => trivial) T hT hps hcap hcW I Ix (fun s A B h k => hI s A B h k.plain) (fun c s A B h k => hIx c s A B h k.plain) h0 hround (fun D xs W h1 h2 h3 _ h4 => hdone D xs W h1 h2 h3 h4) hstop
theorem wide_fnK (f : FuncId) : Fence.wide.fn f := trivial
theorem wide_depthK : Fence.wide.depth = none := rfl
attribute [local go_sem] Oper.semAt_some wide_fnK wide_depthK
theorem KT.form (x : KT) : ∃ (xk : Int) (xf xm xn xl : Nat) (xsp xkp : Option Addr) (xsc xkc : Nat) (X : ByteArray), x.val = .agg #[.int .i64 xk, .int .u8 xf, .slice xsp xm xsc, .int .u32 xn, .string X, .slice xkp xl xkc] ∧
    x.cells.toArray = #[.int .i64 xk, .int .u8 xf, .slice xsp xm xsc, .int .u32 xn, .string X, .slice xkp xl xkc] := by
  cases x; exact ⟨_, _, _, _, _, _, _, _, _, _, rfl, rfl⟩
set_option maxRecDepth 100000 in
set_option maxHeartbeats 4000000 in
theorem keys1_step (kind : Int) (flag : Nat) (set : List (Nat × Nat)) (n : Nat) (s : List UInt8) (kids : List KT) (sp : Option Addr) (scap : Nat) (kp : Option Addr) (kcap : Nat) (ih : ∀ x ∈ kids, IterK x) : IterK (.mk kind flag set n s kids sp scap kp kcap) := by
  obtain ⟨k0, hk0⟩ : ∃ k0, KT.mk kind flag set n s kids sp scap kp kcap = k0 := ⟨_, rfl⟩
  have hkids : k0.kids = kids := by rw [← hk0]; rfl
  have hval : k0.val = .agg #[.int .i64 kind, .int .u8 flag, .slice sp set.length scap, .int .u32 n, .string (txt s), .slice kp kids.length kcap] := by rw [← hk0]; rfl
  intro W0 b1 hkey
  have hkc : KidsC W0 kids kp 0 := by
    unfold KeyC at hkey
    exact hkey.2.2.2.2
  have hmax : kids.length ≤ maxLen := by
    unfold KeyC at hkey
    exact hkey.2.2.1.2.1
  rw [hk0] at hkey ⊢
  rintro l T J Jx W hcap hT hJ hJx hY h0
  have h6 := hcap.bx
  rw [← hk0] at h6
  obtain ⟨c0, c1, c2, c3, c4, c5⟩ := h6.six
  refine (callsIn_wide (n := 3)).1 ?_
  refine callsIn_of_wp_marks Tryz.func132 rfl trivial ?_
  simp only [Tryz.ntmps132, List.size_toArray, List.length_cons, List.length_nil, Nat.reduceAdd, Nat.reduceSub, Array.replicate_succ, Array.replicate_zero, List.push_toArray, List.append_toArray, List.nil_append, List.cons_append]
  refine wpIn_wide.2 ?_
  have hb5 : Below W.heap.size W (W.alloc (.cells #[.func (.yield l) #[] #[]] 46)) := (Below.refl _ _).alloc (Nat.le_refl _) _
  have H5 := Lib.hid (Boxed.new W 46 (.func (.yield l) #[] #[]))
  have hC1 := hcap.below hb5
  have HC1 := Lib.hid hC1
  have hJ1 : J [] (W.alloc (.cells #[.func (.yield l) #[] #[]] 46)) := hJ _ _ _ h0 (Itself.alloc _ _ _ (Nat.le_refl _))
  have hfst : [] ++ [k0] <+: preK k0 := by rw [preK_eq]; exact ⟨_, rfl⟩
  obtain ⟨fn, tmps, assign, body, hy, hRd⟩ := hY [] k0 _ hJ1 hfst
  have HRd := Lib.hid (RoundIn.any (m := 2) hRd)
  dsimp only at hy
  rw [hval] at hy
  have HF := Lib.hid hfst
  have HC := Lib.hid hcap
  have HJ := Lib.hid hJ
  have HX := Lib.hid hJx
  have HY := Lib.hid hY
  have HT := Lib.hid hT
  have hN9 : (kids.length : Int) ≤ 9223372036854775807 := by unfold maxLen at hmax; omega
  have HKC := Lib.hid hkc
  have HKEY := Lib.hid hkey
  have HKIDS := Lib.hid hkids
  have hlb := h6.lt
  have hH0 : W0.heap.size ≤ W.heap.size := hcap.sz
  obtain ⟨N, hN⟩ : ∃ N, kids.length = N := ⟨_, rfl⟩
  obtain ⟨M, hM⟩ : ∃ M, set.length = M := ⟨_, rfl⟩
  obtain ⟨X, hX⟩ : ∃ X, txt s = X := ⟨_, rfl⟩
  have HK0 := Lib.hid hk0
  rw [hN] at c5 hy hmax hN9
  rw [hM] at c2 hy
  rw [hX] at c4 hy
  have HN := Lib.hid hN
  have HM := Lib.hid hM
  have HXX := Lib.hid hX
  clear hcap hJ hJx hY hT hkc hkey hkids hfst hRd hN hM hX h6 hb5 hC1 hJ1 hval hk0
  go_upto_region 1 with fail
  refine (wpIn_wide (n := 3)).1 ?_
  gi_wp2_with fail
  refine HRd.out.mono ?_
  rintro e w5 ⟨hk5, (⟨rfl, hJ5⟩ | ⟨rfl, hX5⟩)⟩
  · have HC5 := Lib.hid (HC1.out.keeps hk5 (.inl rfl) (fun j hj => .inr hj))
    have HJ5 := Lib.hid hJ5
    have H5c := Lib.hid (hk5.boxed H5.out (.inr ⟨Nat.le_refl _, fun h => HT.out _ h (.inr rfl)⟩))
    have hsz5 := hk5.size
    clear hk5 hJ5 hy c0 c1 c2 c3 c4 c5
    have hbx := HC5.out.bx
    rw [← HK0.out] at hbx
    obtain ⟨c0, c1, c2, c3, c4, c5⟩ := hbx.six
    rw [HN.out] at c5
    have hlb5 := hbx.lt
    clear hbx c0 c1 c2 c3 c4
    gi_wp2_with fail
    have hJ0 : J (k0 :: preKs (k0.kids.take 0)) w5 := by rw [List.take_zero]; exact HJ5.out
    have HS0 : Hid (LoopK W0 b1 W.heap.size k0 l J 0 [] w5) := ⟨HC5.out, H5c.out, hJ0, Marks.nil _ _⟩
    clear hJ0
    go_wp2_with fail
    refine wp_loop (fun a w => ∃ (i : Nat) (ms : List Deferred) (x4 x5 x14 x15 x16 x17 x18 x19 x20 x21 x22 x23 x24 : Value), i ≤ N ∧ Hid (LoopK W0 b1 W.heap.size k0 l J i ms w) ∧ a = { tmps := #[.func (.yield l) #[] #[], .pointer (some ⟨b1, 0, none⟩), .pointer (some ⟨W.heap.size, 0, none⟩), undef, x4, x5, .func (.yield l) #[] #[],
        .agg #[.int .i64 kind, .int .u8 flag, .slice sp M scap, .int .u32 n, .string X, .slice kp N kcap], .bool true, .bool false, .pointer (some ⟨b1, 5, none⟩), .slice kp N kcap, .int .i64 N, .int .i64 i, x14, x15, x16, x17, x18, x19, x20, x21, x22, x23, x24], defers := ms }) (fun a _ => N - (intOf (a.tmps.getD 13 undef)).toNat)
      ⟨0, [], undef, undef, undef, undef, undef, undef, undef, undef, undef, undef, undef, undef, undef, Nat.zero_le _, HS0.out, rfl⟩ ?_
    clear HS0 c5 hlb5
    rintro a wr ⟨i, ms, x4, x5, x14, x15, x16, x17, x18, x19, x20, x21, x22, x23, x24, hi, HI, rfl⟩
    by_cases hlt : i < N
    · have g1 : (i : Int) < N := by omega
      have g0 : (0 : Int) ≤ i := by omega
      obtain ⟨kid, hkid⟩ : ∃ kid, kids[i]? = some kid := ⟨_, List.getElem?_eq_getElem (by have := HN.out; omega)⟩
      obtain ⟨b, off, rfl, hbb, hcs, hkk⟩ := KidsC.at kids kp 0 i kid HKC.out hkid
      have hmem : kid ∈ kids := List.mem_of_getElem? hkid
      have HIT := ih kid hmem
      obtain ⟨yk, yf, ym, yn, yl, ysp, ykp, ysc, ykc, Y, hyv, hyc⟩ := kid.form
      have hcell : ∀ (q : Nat) (u : Value), (#[.int .i64 yk, .int .u8 yf, .slice ysp ym ysc, .int .u32 yn, .string Y, .slice ykp yl ykc] : Array Value)[q]? = some u → wr.cell? ⟨b, off + i * 6 + q, none⟩ = some u := fun q u hu => by
        have h1 := hcs q u (by rw [← hyc] at hu; simpa using hu)
        rw [Nat.zero_add] at h1
        exact (World.cell?_of_block (a := ⟨b, _, none⟩) (HI.out.kc.sm b hbb)).trans h1
      have d0 : wr.cell? ⟨b, off + i * 6, none⟩ = some (.int .i64 yk) := by have := hcell 0 _ rfl; simpa using this
      have d1 := hcell 1 _ rfl
      have d2 := hcell 2 _ rfl
      have d3 := hcell 3 _ rfl
      have d4 := hcell 4 _ rfl
      have d5 := hcell 5 _ rfl
      have hbw : b < wr.heap.size := Nat.lt_of_lt_of_le hbb HI.out.kc.sz
      obtain ⟨tl, htl⟩ := segK hkid
      have HLL : Hid (preK k0 = k0 :: (preKs (k0.kids.take i) ++ preK kid ++ tl)) := by
        show _ = _
        rw [preK_eq, HKIDS.out, htl]
      have HNX : Hid (preKs (k0.kids.take (i + 1)) = preKs (k0.kids.take i) ++ preK kid) := by
        show _ = _
        rw [HKIDS.out]; exact preKs_at hkid
      have CK := fun w => keys_c kid w
      simp only [hyv] at CK
      have CK := Lib.hid CK
      have HKK := Lib.hid hkk
      have HYC := Lib.hid hyc
      clear hkid hcs hkk hmem hyv hyc hcell htl
      go_wp2_with (go_at_call 73; refine (CK.out _).mono ?_; rintro e w7 ⟨rfl, hbx7, hb7, hsz7⟩)
      rw [World.size_alloc] at hbx7 hb7 hsz7
      have hb9 : Below wr.heap.size wr w7 := ((Below.refl _ wr).alloc (Nat.le_refl _) _).trans (hb7.mono (by omega))
      have HBX := Lib.hid hbx7
      have HB7 := Lib.hid hb9
      clear hbx7 hb7 hb9 d0 d1 d2 d3 d4 d5
      have hlo : W.heap.size < wr.heap.size := lt_of_block HI.out.yb
      have HRS : Hid (RKS W0 b1 W.heap.size (wr.heap.size + 1) ms w7.heap.size) := ⟨hlb, hH0, by omega, by omega, fun j hj => ⟨by have := HI.out.mks.lt hj; omega, by
        obtain ⟨Ds, hDs, _, h2⟩ := HI.out.mks
        rw [hDs] at hj
        obtain ⟨D', hD', he⟩ := List.mem_map.1 hj
        unfold markOf at he
        cases he
        exact (h2 _ hD').1⟩⟩
      have hk7 : ∀ j, j < wr.heap.size → w7.heap[j]? = wr.heap[j]? := HB7.out.block
      have hkc7 : SKC W0 b1 k0 w7 := HI.out.kc.below HB7.out
      have HKD : Hid (SKC W0 (wr.heap.size + 1) kid w7) := ⟨HBX.out, hkc7.sz, hkc7.sm⟩
      have HRI : Hid (RK W0 b1 W.heap.size (wr.heap.size + 1) k0 kid l ms w7.heap.size w7) := ⟨hkc7, (hk7 _ (lt_of_block HI.out.yb)).trans HI.out.yb, HI.out.mks.below HB7.out, Nat.le_refl _, HKD.out⟩
      have hlo7 : W.heap.size ≤ w7.heap.size := by omega
      have hit7 : Itself skT0 W.heap.size wr w7 := ⟨HB7.out.os, HB7.out.tape, HB7.out.output, HB7.out.size, fun j hj => HB7.out.block j (by omega), fun j c e fz _ hj => (HB7.out.block j (Array.getElem?_eq_some_iff.1 hj).1).trans hj⟩
      have HJ7 : Hid (J (k0 :: (preKs (k0.kids.take i) ++ [])) w7) := by
        show J _ _
        rw [List.append_nil]
        exact HJ.out _ _ _ HI.out.jj hit7
      have hup : ∀ {A B : World}, Itself skT0 w7.heap.size A B → Itself skT0 W.heap.size A B := fun h => h.mono (fun _ h => h) hlo7
      clear hkc7 hit7
      refine (wpIn_wide (n := 3)).1 ?_
      refine wpIn_rangeIterL (gf := 132) (lb := #[.pointer (some ⟨wr.heap.size + 1, 0, none⟩)]) rfl (enters_of Tryz.func132 (by kernel_rfl) rfl) (HIT W0 (wr.heap.size + 1) HKK.out) T (fun e h => HT.out e h) (fun _ => rfl)
        (fun j hj => by
          rcases hj with rfl | hj
          · omega
          · omega)
        (fun W' hW' => HKD.out.below hW')
        (fun pre W' => J (k0 :: (preKs (k0.kids.take i) ++ pre)) W' ∧ RK W0 b1 W.heap.size (wr.heap.size + 1) k0 kid l ms w7.heap.size W')
        (fun c pre W' => c = .ret ∧ Jx (k0 :: (preKs (k0.kids.take i) ++ pre)) W' ∧ RK W0 b1 W.heap.size (wr.heap.size + 1) k0 kid l ms w7.heap.size W')
        (fun s' A B h hAB => ⟨HJ.out _ _ _ h.1 (hup hAB), h.2.itself HRS.out hAB⟩)
        (fun c s' A B h hAB => ⟨h.1, HX.out _ _ _ h.2.1 (hup hAB), h.2.2.itself HRS.out hAB⟩)
        ⟨HJ7.out, HRI.out⟩ ?round ?done ?stop
      case round =>
        rintro l' pre x W1 hl ⟨rr, hrr⟩ ⟨hj, hri⟩ hst
        have hl1 : l' < W1.heap.size := (Array.getElem?_eq_some_iff.1 hrr).1
        have hlw : w7.heap.size ≤ W1.heap.size := hri.siz
        have HRI1 := Lib.hid hri
        have HJ1 := Lib.hid hj
        have HST := Lib.hid hst
        obtain ⟨xk, xf, xm, xn, xl, xsp, xkp, xsc, xkc, Z, hxv, hxc⟩ := x.form
        have HXV := Lib.hid hxv
        have HXC := Lib.hid hxc
        clear hri hj hst hxc
        rw [hxv]
        clear hxv
        gi_wp2_with fail
        refine ⟨Keeps.alloc _ _ _ _ _, fun W2 hits hsz2 hrec hoth => ?_⟩
        have hit1 : Itself skT0 w7.heap.size W1 (W1.alloc (.cells #[.int .i64 xk, .int .u8 xf, .slice xsp xm xsc, .int .u32 xn, .string Z, .slice xkp xl xkc] 37)) := Itself.alloc _ _ _ hlw
        have hit2 := hit1.trans hits
        have HRI2 := Lib.hid (HRI1.out.itself HRS.out hit2)
        have HJ2 := Lib.hid (HJ.out _ _ _ HJ1.out (hup hit2))
        have hbn : Box6 W2 W1.heap.size x := by
          have h1 := (hoth _ (by omega)).trans (heap_alloc_new W1 (.cells #[.int .i64 xk, .int .u8 xf, .slice xsp xm xsc, .int .u32 xn, .string Z, .slice xkp xl xkc] 37))
          rw [← HXC.out] at h1
          exact h1
        have hcell : ∀ (q : Nat) (u : Value), (#[.int .i64 xk, .int .u8 xf, .slice xsp xm xsc, .int .u32 xn, .string Z, .slice xkp xl xkc] : Array Value)[q]? = some u → W2.cell? ⟨W1.heap.size, q, none⟩ = some u := fun q u hu => by
          rw [← HXC.out] at hu; exact hbn.cell (by simpa using hu)
        have d0 := hcell 0 _ rfl
        have d1 := hcell 1 _ rfl
        have d2 := hcell 2 _ rfl
        have d3 := hcell 3 _ rfl
        have d4 := hcell 4 _ rfl
        have d5 := hcell 5 _ rfl
        have l2 : W1.heap.size < W2.heap.size := hbn.lt
        have cy := HRI2.out.yb.cell
        have ly := lt_of_block HRI2.out.yb
        have hpre : (k0 :: (preKs (k0.kids.take i) ++ pre)) ++ [x] <+: preK k0 := by
          obtain ⟨t2, ht2⟩ := HST.out
          rw [HLL.out, ← ht2]
          exact ⟨t2 ++ tl, by simp⟩
        obtain ⟨fn, tmps, assign, body, hy, hR⟩ := HY.out _ x W2 HJ2.out hpre
        try dsimp only at hy
        rw [HXV.out] at hy
        have HR := Lib.hid (RoundIn.inL (m := 0) l' hR)
        clear hR hits hit1 hit2 hsz2 hrec hoth hbn hpre hcell hrr
        gi_wp2_with fail
        refine HR.out.mono ?_
        rintro e W3 ⟨hk3, (⟨rfl, hj3⟩ | ⟨rfl, hx3⟩)⟩
        · have HKP := Lib.hid (HRI2.out.inner HRS.out HT.out hk3)
          have HR3 := Lib.hid (HRI2.out.keeps HRS.out HT.out hk3)
          have HJ3 : Hid (J (k0 :: (preKs (k0.kids.take i) ++ (pre ++ [x]))) W3) := by
            show J _ _
            have h := hj3
            rw [List.cons_append, List.append_assoc] at h
            exact h
          clear hk3 hj3 hy cy d0 d1 d2 d3 d4 d5
          gi_wp2_with fail
          exact ⟨HKP.out, HJ3.out, HR3.out⟩
        · have HKP := Lib.hid (HRI2.out.inner HRS.out HT.out hk3)
          have HR3 := Lib.hid (HRI2.out.keeps HRS.out HT.out hk3)
          have HX3 : Hid (Jx (k0 :: (preKs (k0.kids.take i) ++ (pre ++ [x]))) W3) := by
            show Jx _ _
            have h := hx3
            rw [List.cons_append, List.append_assoc] at h
            exact h
          clear hk3 hx3 hy cy d0 d1 d2 d3 d4 d5
          gi_wp2_with fail
          exact ⟨HKP.out, rfl, HX3.out, HR3.out⟩
      case done =>
        rintro D' xs W1 hD hxs ⟨hj, hri⟩ hK
        have hLI : LoopK W0 b1 W.heap.size k0 l J (i + 1) (markOf D' :: ms) W1 := by
          refine ⟨hri.kc, hri.yb, ?_, hri.mks.cons (by omega) hK (fun d hd he => ?_)⟩
          · rw [HNX.out, ← hxs]; exact hj
          · rw [he] at hd
            have := (HRS.out.ak D' hd).1
            omega
        have HLI := Lib.hid hLI
        clear hLI hj hri hK hxs
        go_wp2_with fail
        refine ⟨⟨i + 1, markOf D' :: ms, _, _, _, _, _, _, _, _, _, _, _, _, _, by omega, HLI, rfl⟩, ?_⟩
        simp [intOf]
        omega
      case stop =>
        rintro D' c pre W1 hD hpre ⟨rfl, hx, hri⟩ hK
        have HMK := Lib.hid (hri.mks.cons (D := D') (by omega) hK (fun d hd he => by
          rw [he] at hd
          have := (HRS.out.ak D' hd).1
          omega))
        have HXX := Lib.hid hx
        have hpre2 : (k0 :: (preKs (k0.kids.take i) ++ pre)) <+: preK k0 := by
          obtain ⟨t2, ht2⟩ := hpre
          rw [HLL.out, ← ht2]
          exact ⟨t2 ++ tl, by simp⟩
        have HPR := Lib.hid hpre2
        clear hx hri hK hpre hpre2
        gi_wp2_with fail
        refine HMK.out.leaves (fun W' hW' => ?_)
        exact ⟨_, results_none rfl _ _ _, ⟨_, rfl⟩, .inr ⟨_, HPR.out, HX.out _ _ _ HXX.out (hW'.mono (fun _ h => h.elim) (Nat.le_refl _))⟩⟩
    · obtain rfl : i = N := by omega
      have g3 : ¬ (i : Int) < i := by omega
      go_wp2_with fail
      refine HI.out.mks.leaves (fun W' hW' => ?_)
      refine ⟨_, results_none rfl _ _ _, ⟨_, rfl⟩, .inl ?_⟩
      have h := HJ.out _ _ _ HI.out.jj (hW'.mono (fun _ h => h.elim) (Nat.le_refl _))
      rw [HKIDS.out, List.take_of_length_le (by rw [HN.out]; exact Nat.le_refl _), ← HKIDS.out] at h
      rw [preK_eq]
      exact h
  · have HX5 := Lib.hid hX5
    clear hk5 hX5 hy
    gi_wp2_with fail
    go_wp2_with fail
    exact ⟨_, results_none rfl _ _ _, ⟨_, rfl⟩, .inr ⟨_, HF.out, HX5.out⟩⟩
theorem keys1_iter (k : KT) : IterK k := KT.ind (P := IterK) keys1_step k
end Go.Proofs.YtpnnchpaaopdcaaGreatDoor
namespace Go.Proofs.YtpnnchpaaopdcaaGreatDoor
open Go Go.RowKit
theorem kid_cells {W : World} {kids : List KT} {kp : Option Addr} (hk : KidsC W kids kp 0) {i : Nat} {x : KT} (hx : kids[i]? = some x) :
    ∃ (b off : Nat), kp = some ⟨b, off, none⟩ ∧ b < W.heap.size ∧ KeyC W x ∧ ∀ (q : Nat) (u : Value), x.cells[q]? = some u → W.cell? ⟨b, off + i * 6 + q, none⟩ = some u := by
  obtain ⟨b, off, h1, h2, h3, h4⟩ := KidsC.at kids kp 0 i x hk hx
  exact ⟨b, off, h1, h2, h4, fun q u hu => by have := h3 q u hu; rwa [Nat.zero_add] at this⟩
theorem take_atS {α : Type} {l : List α} {k : Nat} {r : α} (h : l[k]? = some r) : l.take (k + 1) = l.take k ++ [r] := by
  obtain ⟨hk, rfl⟩ := List.getElem?_eq_some_iff.1 h
  exact List.take_succ_eq_append_getElem hk
set_option maxRecDepth 100000 in
set_option maxHeartbeats 2000000 in
theorem sIndexF_sWithin1_c {W : World} {kids : List KT} {kp : Option Addr} {kcap : Nat} (P1 : Option Addr) (p : KT → Bool) (hk : KidsC W kids kp 0) (hm : kids.length ≤ maxLen)
    (hF : ∀ x ∈ kids, ∀ W', Below W.heap.size W W' → Calls Tryz.prog 118 #[x.val, .pointer P1] W' fun e w' => e = .returned (.bool (p x)) ∧ Below W'.heap.size W' w') :
    Calls Tryz.prog 175 #[.slice kp kids.length kcap, .func (.func 118) #[] #[.pointer P1]] W fun e w' => ∃ z : Int, e = .returned (.int .i64 z) ∧ (0 ≤ z ↔ kids.any p = true) ∧ Below W.heap.size W w' := by
  have HF := Lib.hid hF
  have HK := Lib.hid hk
  have hN9 : (kids.length : Int) ≤ 9223372036854775807 := by unfold maxLen at hm; omega
  obtain ⟨N, hN⟩ : ∃ N, kids.length = N := ⟨_, rfl⟩
  rw [hN] at hN9 ⊢
  have HN := Lib.hid hN
  clear hF hk hN hm
  go_enter Tryz.func175, Tryz.ntmps175
  go_wp2_with fail
  go_loopw [8] (fun iv wr => ∃ i : Nat, i ≤ N ∧ iv = .int .i64 i ∧ Hid ((kids.take i).any p = false) ∧ Hid (Below W.heap.size W wr)) (fun iv _ => N - (intOf iv).toNat)
  case atStart => exact ⟨0, Nat.zero_le _, rfl, rfl, Below.refl _ _⟩
  case round =>
    obtain ⟨i, hi, rfl, HA, HB⟩ := hrel
    by_cases hlt : i < N
    · have g1 : (i : Int) < N := by omega
      have g0 : (0 : Int) ≤ i := by omega
      obtain ⟨x, hx⟩ : ∃ x, kids[i]? = some x := ⟨_, List.getElem?_eq_getElem (by have := HN.out; omega)⟩
      obtain ⟨b, off, rfl, hbb, hkx, hcs⟩ := kid_cells HK.out hx
      have CF := HF.out x (List.mem_of_getElem? hx) wr HB.out
      obtain ⟨yk, yf, ym, yn, yl, ysp, ykp, ysc, ykc, Y, hyv, hyc⟩ := x.form
      have hcell : ∀ (q : Nat) (u : Value), (#[.int .i64 yk, .int .u8 yf, .slice ysp ym ysc, .int .u32 yn, .string Y, .slice ykp yl ykc] : Array Value)[q]? = some u → wr.cell? ⟨b, off + i * 6 + q, none⟩ = some u := fun q u hu => by
        have h1 := hcs q u (by rw [← hyc] at hu; simpa using hu)
        exact (HB.out.cell (p := ⟨b, _, none⟩) hbb).trans h1
      have d0 : wr.cell? ⟨b, off + i * 6, none⟩ = some (.int .i64 yk) := by have := hcell 0 _ rfl; simpa using this
      have d1 := hcell 1 _ rfl
      have d2 := hcell 2 _ rfl
      have d3 := hcell 3 _ rfl
      have d4 := hcell 4 _ rfl
      have d5 := hcell 5 _ rfl
      have hbw : b < wr.heap.size := Nat.lt_of_lt_of_le hbb HB.out.size
      have HT : Hid ((kids.take (i + 1)).any p = ((kids.take i).any p || p x)) := by
        show _ = _
        rw [take_atS hx, List.any_append]; simp
      have HX := Lib.hid hx
      rw [hyv] at CF
      obtain ⟨pv, hpv⟩ : ∃ pv, p x = pv := ⟨_, rfl⟩
      rw [hpv] at CF HT
      have CF := Lib.hid CF
      have HPV := Lib.hid hpv
      clear hx hcs hyv hyc hcell hpv hkx
      cases pv with
      | true =>
        go_wp2_with fail
        refine CF.out.mono ?_
        rintro e w5 ⟨rfl, hb5⟩
        have HB5 := Lib.hid (HB.out.trans (hb5.mono HB.out.size))
        clear hb5
        go_wp2_with fail
        go_ret
        refine ⟨i, rfl, ⟨fun _ => ?_, fun _ => by omega⟩, HB5.out⟩
        rw [List.any_eq_true]
        exact ⟨x, List.mem_of_getElem? HX.out, HPV.out⟩
      | false =>
        rw [HA.out] at HT
        go_wp2_with fail
        refine CF.out.mono ?_
        rintro e w5 ⟨rfl, hb5⟩
        have HB5 := Lib.hid (HB.out.trans (hb5.mono HB.out.size))
        clear hb5
        go_wp2_with fail
        go_roundw
        case rel => exact ⟨i + 1, by omega, by go_num, HT.out, HB5.out⟩
        case measure => simp [intOf]; omega
    · obtain rfl : i = N := by omega
      go_wp2_with fail
      go_ret
      refine ⟨-1, rfl, ⟨fun h => by omega, fun h => ?_⟩, HB.out⟩
      have h2 := HA.out
      rw [List.take_of_length_le (by rw [HN.out]; exact Nat.le_refl _), h] at h2
      cases h2
set_option maxRecDepth 100000 in
theorem sContainsF_sWithin1_c {W : World} {kids : List KT} {kp : Option Addr} {kcap : Nat} (P1 : Option Addr) (p : KT → Bool) (hk : KidsC W kids kp 0) (hm : kids.length ≤ maxLen)
    (hF : ∀ x ∈ kids, ∀ W', Below W.heap.size W W' → Calls Tryz.prog 118 #[x.val, .pointer P1] W' fun e w' => e = .returned (.bool (p x)) ∧ Below W'.heap.size W' w') :
    Calls Tryz.prog 119 #[.slice kp kids.length kcap, .func (.func 118) #[] #[.pointer P1]] W fun e w' => e = .returned (.bool (kids.any p)) ∧ Below W.heap.size W w' := by
  have C := Lib.hid (sIndexF_sWithin1_c (kcap := kcap) P1 p hk hm hF)
  obtain ⟨N, hN⟩ : ∃ N, kids.length = N := ⟨_, rfl⟩
  obtain ⟨pv, hpv⟩ : ∃ pv, kids.any p = pv := ⟨_, rfl⟩
  rw [hN, hpv] at C
  rw [hN, hpv]
  clear hk hm hF hN hpv
  go_enter Tryz.func119, Tryz.ntmps119
  go_wp2_with fail
  refine C.out.mono ?_
  rintro e w5 ⟨z, rfl, hz, hb⟩
  have HB := Lib.hid hb
  clear hb
  by_cases h0 : 0 ≤ z
  · obtain rfl := hz.1 h0
    clear hz
    go_wp2_with fail
    go_ret
    exact ⟨by simp [h0], HB.out⟩
  · have : pv = false := by cases pv; rfl; exact absurd (hz.2 rfl) h0
    subst this
    clear hz
    go_wp2_with fail
    go_ret
    exact ⟨by simp [h0], HB.out⟩
set_option maxRecDepth 100000 in
set_option maxHeartbeats 2000000 in
theorem sIndexF_sMatches1_c {W : World} {kids : List KT} {kp : Option Addr} {kcap : Nat} (P1 P2 : Option Addr) (p : KT → Bool) (hk : KidsC W kids kp 0) (hm : kids.length ≤ maxLen)
    (hF : ∀ x ∈ kids, ∀ W', Below W.heap.size W W' → Calls Tryz.prog 124 #[x.val, .pointer P1, .pointer P2] W' fun e w' => e = .returned (.bool (p x)) ∧ Below W'.heap.size W' w') :
    Calls Tryz.prog 175 #[.slice kp kids.length kcap, .func (.func 124) #[] #[.pointer P1, .pointer P2]] W fun e w' => ∃ z : Int, e = .returned (.int .i64 z) ∧ (0 ≤ z ↔ kids.any p = true) ∧ Below W.heap.size W w' := by
  have HF := Lib.hid hF
  have HK := Lib.hid hk
  have hN9 : (kids.length : Int) ≤ 9223372036854775807 := by unfold maxLen at hm; omega
  obtain ⟨N, hN⟩ : ∃ N, kids.length = N := ⟨_, rfl⟩
  rw [hN] at hN9 ⊢
  have HN := Lib.hid hN
  clear hF hk hN hm
  go_enter Tryz.func175, Tryz.ntmps175
  go_wp2_with fail
  go_loopw [8] (fun iv wr => ∃ i : Nat, i ≤ N ∧ iv = .int .i64 i ∧ Hid ((kids.take i).any p = false) ∧ Hid (Below W.heap.size W wr)) (fun iv _ => N - (intOf iv).toNat)
  case atStart => exact ⟨0, Nat.zero_le _, rfl, rfl, Below.refl _ _⟩
  case round =>
    obtain ⟨i, hi, rfl, HA, HB⟩ := hrel
    by_cases hlt : i < N
    · have g1 : (i : Int) < N := by omega
      have g0 : (0 : Int) ≤ i := by omega
      obtain ⟨x, hx⟩ : ∃ x, kids[i]? = some x := ⟨_, List.getElem?_eq_getElem (by have := HN.out; omega)⟩
      obtain ⟨b, off, rfl, hbb, hkx, hcs⟩ := kid_cells HK.out hx
      have CF := HF.out x (List.mem_of_getElem? hx) wr HB.out
      obtain ⟨yk, yf, ym, yn, yl, ysp, ykp, ysc, ykc, Y, hyv, hyc⟩ := x.form
      have hcell : ∀ (q : Nat) (u : Value), (#[.int .i64 yk, .int .u8 yf, .slice ysp ym ysc, .int .u32 yn, .string Y, .slice ykp yl ykc] : Array Value)[q]? = some u → wr.cell? ⟨b, off + i * 6 + q, none⟩ = some u := fun q u hu => by
        have h1 := hcs q u (by rw [← hyc] at hu; simpa using hu)
        exact (HB.out.cell (p := ⟨b, _, none⟩) hbb).trans h1
      have d0 : wr.cell? ⟨b, off + i * 6, none⟩ = some (.int .i64 yk) := by have := hcell 0 _ rfl; simpa using this
      have d1 := hcell 1 _ rfl
      have d2 := hcell 2 _ rfl
      have d3 := hcell 3 _ rfl
      have d4 := hcell 4 _ rfl
      have d5 := hcell 5 _ rfl
      have hbw : b < wr.heap.size := Nat.lt_of_lt_of_le hbb HB.out.size
      have HT : Hid ((kids.take (i + 1)).any p = ((kids.take i).any p || p x)) := by
        show _ = _
        rw [take_atS hx, List.any_append]; simp
      have HX := Lib.hid hx
      rw [hyv] at CF
      obtain ⟨pv, hpv⟩ : ∃ pv, p x = pv := ⟨_, rfl⟩
      rw [hpv] at CF HT
      have CF := Lib.hid CF
      have HPV := Lib.hid hpv
      clear hx hcs hyv hyc hcell hpv hkx
      cases pv with
      | true =>
        go_wp2_with fail
        refine CF.out.mono ?_
        rintro e w5 ⟨rfl, hb5⟩
        have HB5 := Lib.hid (HB.out.trans (hb5.mono HB.out.size))
        clear hb5
        go_wp2_with fail
        go_ret
        refine ⟨i, rfl, ⟨fun _ => ?_, fun _ => by omega⟩, HB5.out⟩
        rw [List.any_eq_true]
        exact ⟨x, List.mem_of_getElem? HX.out, HPV.out⟩
      | false =>
        rw [HA.out] at HT
        go_wp2_with fail
        refine CF.out.mono ?_
        rintro e w5 ⟨rfl, hb5⟩
        have HB5 := Lib.hid (HB.out.trans (hb5.mono HB.out.size))
        clear hb5
        go_wp2_with fail
        go_roundw
        case rel => exact ⟨i + 1, by omega, by go_num, HT.out, HB5.out⟩
        case measure => simp [intOf]; omega
    · obtain rfl : i = N := by omega
      go_wp2_with fail
      go_ret
      refine ⟨-1, rfl, ⟨fun h => by omega, fun h => ?_⟩, HB.out⟩
      have h2 := HA.out
      rw [List.take_of_length_le (by rw [HN.out]; exact Nat.le_refl _), h] at h2
      cases h2
set_option maxRecDepth 100000 in
theorem sContainsF_sMatches1_c {W : World} {kids : List KT} {kp : Option Addr} {kcap : Nat} (P1 P2 : Option Addr) (p : KT → Bool) (hk : KidsC W kids kp 0) (hm : kids.length ≤ maxLen)
    (hF : ∀ x ∈ kids, ∀ W', Below W.heap.size W W' → Calls Tryz.prog 124 #[x.val, .pointer P1, .pointer P2] W' fun e w' => e = .returned (.bool (p x)) ∧ Below W'.heap.size W' w') :
    Calls Tryz.prog 119 #[.slice kp kids.length kcap, .func (.func 124) #[] #[.pointer P1, .pointer P2]] W fun e w' => e = .returned (.bool (kids.any p)) ∧ Below W.heap.size W w' := by
  have C := Lib.hid (sIndexF_sMatches1_c (kcap := kcap) P1 P2 p hk hm hF)
  obtain ⟨N, hN⟩ : ∃ N, kids.length = N := ⟨_, rfl⟩
  obtain ⟨pv, hpv⟩ : ∃ pv, kids.any p = pv := ⟨_, rfl⟩
  rw [hN, hpv] at C
  rw [hN, hpv]
  clear hk hm hF hN hpv
  go_enter Tryz.func119, Tryz.ntmps119
  go_wp2_with fail
  refine C.out.mono ?_
  rintro e w5 ⟨z, rfl, hz, hb⟩
  have HB := Lib.hid hb
  clear hb
  by_cases h0 : 0 ≤ z
  · obtain rfl := hz.1 h0
    clear hz
    go_wp2_with fail
    go_ret
    exact ⟨by simp [h0], HB.out⟩
  · have : pv = false := by cases pv; rfl; exact absurd (hz.2 rfl) h0
    subst this
    clear hz
    go_wp2_with fail
    go_ret
    exact ⟨by simp [h0], HB.out⟩
set_option maxRecDepth 100000 in
set_option maxHeartbeats 2000000 in
theorem sIndexF_sMatches2_c {W : World} {kids : List KT} {kp : Option Addr} {kcap : Nat} (P1 : Option Addr) (p : KT → Bool) (hk : KidsC W kids kp 0) (hm : kids.length ≤ maxLen)
    (hF : ∀ x ∈ kids, ∀ W', Below W.heap.size W W' → Calls Tryz.prog 125 #[x.val, .pointer P1] W' fun e w' => e = .returned (.bool (p x)) ∧ Below W'.heap.size W' w') :
    Calls Tryz.prog 175 #[.slice kp kids.length kcap, .func (.func 125) #[] #[.pointer P1]] W fun e w' => ∃ z : Int, e = .returned (.int .i64 z) ∧ (0 ≤ z ↔ kids.any p = true) ∧ Below W.heap.size W w' := by
  have HF := Lib.hid hF
  have HK := Lib.hid hk
  have hN9 : (kids.length : Int) ≤ 9223372036854775807 := by unfold maxLen at hm; omega
  obtain ⟨N, hN⟩ : ∃ N, kids.length = N := ⟨_, rfl⟩
  rw [hN] at hN9 ⊢
  have HN := Lib.hid hN
  clear hF hk hN hm
  go_enter Tryz.func175, Tryz.ntmps175
  go_wp2_with fail
  go_loopw [8] (fun iv wr => ∃ i : Nat, i ≤ N ∧ iv = .int .i64 i ∧ Hid ((kids.take i).any p = false) ∧ Hid (Below W.heap.size W wr)) (fun iv _ => N - (intOf iv).toNat)
  case atStart => exact ⟨0, Nat.zero_le _, rfl, rfl, Below.refl _ _⟩
  case round =>
    obtain ⟨i, hi, rfl, HA, HB⟩ := hrel
    by_cases hlt : i < N
    · have g1 : (i : Int) < N := by omega
      have g0 : (0 : Int) ≤ i := by omega
      obtain ⟨x, hx⟩ : ∃ x, kids[i]? = some x := ⟨_, List.getElem?_eq_getElem (by have := HN.out; omega)⟩
      obtain ⟨b, off, rfl, hbb, hkx, hcs⟩ := kid_cells HK.out hx
      have CF := HF.out x (List.mem_of_getElem? hx) wr HB.out
      obtain ⟨yk, yf, ym, yn, yl, ysp, ykp, ysc, ykc, Y, hyv, hyc⟩ := x.form
      have hcell : ∀ (q : Nat) (u : Value), (#[.int .i64 yk, .int .u8 yf, .slice ysp ym ysc, .int .u32 yn, .string Y, .slice ykp yl ykc] : Array Value)[q]? = some u → wr.cell? ⟨b, off + i * 6 + q, none⟩ = some u := fun q u hu => by
        have h1 := hcs q u (by rw [← hyc] at hu; simpa using hu)
        exact (HB.out.cell (p := ⟨b, _, none⟩) hbb).trans h1
      have d0 : wr.cell? ⟨b, off + i * 6, none⟩ = some (.int .i64 yk) := by have := hcell 0 _ rfl; simpa using this
      have d1 := hcell 1 _ rfl
      have d2 := hcell 2 _ rfl
      have d3 := hcell 3 _ rfl
      have d4 := hcell 4 _ rfl
      have d5 := hcell 5 _ rfl
      have hbw : b < wr.heap.size := Nat.lt_of_lt_of_le hbb HB.out.size
      have HT : Hid ((kids.take (i + 1)).any p = ((kids.take i).any p || p x)) := by
        show _ = _
        rw [take_atS hx, List.any_append]; simp
      have HX := Lib.hid hx
      rw [hyv] at CF
      obtain ⟨pv, hpv⟩ : ∃ pv, p x = pv := ⟨_, rfl⟩
      rw [hpv] at CF HT
      have CF := Lib.hid CF
      have HPV := Lib.hid hpv
      clear hx hcs hyv hyc hcell hpv hkx
      cases pv with
      | true =>
        go_wp2_with fail
        refine CF.out.mono ?_
        rintro e w5 ⟨rfl, hb5⟩
        have HB5 := Lib.hid (HB.out.trans (hb5.mono HB.out.size))
        clear hb5
        go_wp2_with fail
        go_ret
        refine ⟨i, rfl, ⟨fun _ => ?_, fun _ => by omega⟩, HB5.out⟩
        rw [List.any_eq_true]
        exact ⟨x, List.mem_of_getElem? HX.out, HPV.out⟩
      | false =>
        rw [HA.out] at HT
        go_wp2_with fail
        refine CF.out.mono ?_
        rintro e w5 ⟨rfl, hb5⟩
        have HB5 := Lib.hid (HB.out.trans (hb5.mono HB.out.size))
        clear hb5
        go_wp2_with fail
        go_roundw
        case rel => exact ⟨i + 1, by omega, by go_num, HT.out, HB5.out⟩
        case measure => simp [intOf]; omega
    · obtain rfl : i = N := by omega
      go_wp2_with fail
      go_ret
      refine ⟨-1, rfl, ⟨fun h => by omega, fun h => ?_⟩, HB.out⟩
      have h2 := HA.out
      rw [List.take_of_length_le (by rw [HN.out]; exact Nat.le_refl _), h] at h2
      cases h2
set_option maxRecDepth 100000 in
theorem sContainsF_sMatches2_c {W : World} {kids : List KT} {kp : Option Addr} {kcap : Nat} (P1 : Option Addr) (p : KT → Bool) (hk : KidsC W kids kp 0) (hm : kids.length ≤ maxLen)
    (hF : ∀ x ∈ kids, ∀ W', Below W.heap.size W W' → Calls Tryz.prog 125 #[x.val, .pointer P1] W' fun e w' => e = .returned (.bool (p x)) ∧ Below W'.heap.size W' w') :
    Calls Tryz.prog 119 #[.slice kp kids.length kcap, .func (.func 125) #[] #[.pointer P1]] W fun e w' => e = .returned (.bool (kids.any p)) ∧ Below W.heap.size W w' := by
  have C := Lib.hid (sIndexF_sMatches2_c (kcap := kcap) P1 p hk hm hF)
  obtain ⟨N, hN⟩ : ∃ N, kids.length = N := ⟨_, rfl⟩
  obtain ⟨pv, hpv⟩ : ∃ pv, kids.any p = pv := ⟨_, rfl⟩
  rw [hN, hpv] at C
  rw [hN, hpv]
  clear hk hm hF hN hpv
  go_enter Tryz.func119, Tryz.ntmps119
  go_wp2_with fail
  refine C.out.mono ?_
  rintro e w5 ⟨z, rfl, hz, hb⟩
  have HB := Lib.hid hb
  clear hb
  by_cases h0 : 0 ≤ z
  · obtain rfl := hz.1 h0
    clear hz
    go_wp2_with fail
    go_ret
    exact ⟨by simp [h0], HB.out⟩
  · have : pv = false := by cases pv; rfl; exact absurd (hz.2 rfl) h0
    subst this
    clear hz
    go_wp2_with fail
    go_ret
    exact ⟨by simp [h0], HB.out⟩
mutual
def sameK : KT → KT → Bool
  | .mk kd fl set n s kids _ _ _ _, .mk kd' fl' set' n' s' kids' _ _ _ _ => (kd == kd') && ((fl == fl') && ((n == n') && ((s == s') && ((set == set') && sameL kids kids'))))
def sameL : List KT → List KT → Bool
  | [], [] => true
  | a :: r, b :: r' => sameK a b && sameL r r'
  | [], _ :: _ => false
  | _ :: _, [] => false
end
theorem sameL_len : ∀ {l l' : List KT}, sameL l l' = true → l.length = l'.length
  | [], [], _ => rfl
  | a :: r, b :: r', h => by
    unfold sameL at h
    rw [Bool.and_eq_true] at h
    rw [List.length_cons, List.length_cons, sameL_len h.2]
  | [], _ :: _, h => by unfold sameL at h; cases h
  | _ :: _, [], h => by unfold sameL at h; cases h
theorem sameL_at : ∀ {l l' : List KT} {j : Nat} {a b : KT}, sameL l l' = true → l[j]? = some a → l'[j]? = some b → sameK a b = true
  | x :: r, y :: r', 0, a, b, h, ha, hb => by
    unfold sameL at h
    rw [Bool.and_eq_true] at h
    simp at ha hb
    subst ha; subst hb
    exact h.1
  | x :: r, y :: r', j + 1, a, b, h, ha, hb => by
    unfold sameL at h
    rw [Bool.and_eq_true] at h
    exact sameL_at h.2 (by simpa using ha) (by simpa using hb)
  | [], _, j, a, b, h, ha, hb => by simp at ha
  | _ :: _, [], j, a, b, h, ha, hb => by simp at hb
theorem sameL_all : ∀ {l l' : List KT}, l.length = l'.length → (∀ (j : Nat) (a b : KT), l[j]? = some a → l'[j]? = some b → sameK a b = true) → sameL l l' = true
  | [], [], _, _ => by unfold sameL; rfl
  | x :: r, y :: r', hl, h => by
    unfold sameL
    rw [h 0 x y rfl rfl, sameL_all (l := r) (l' := r') (by simpa using hl) fun j a b ha hb => h (j + 1) a b (by simpa using ha) (by simpa using hb)]
    rfl
  | [], _ :: _, hl, _ => by simp at hl
  | _ :: _, [], hl, _ => by simp at hl
theorem neq_range (a b c d : Nat) (w : World) : (binOp .neq 115 (.agg #[.int .u32 a, .int .u32 b]) (.agg #[.int .u32 c, .int .u32 d])).run Tryz.prog w = .ok (.bool (!(((a, b) : Nat × Nat) == (c, d)))) w := by
  go_simp
  by_cases h1 : a = c
  · subst h1
    by_cases h2 : b = d
    · subst h2; simp
    · have : ¬ ((b : Int) = d) := by omega
      simp [this, h2]
  · have : ¬ ((a : Int) = c) := by omega
    simp [this, h1]
theorem neq_guard (x y : Operand) (xs ys : Array Value) (w : World) : (eqGuard .neq 115 x y (.agg xs) (.agg ys)).run Tryz.prog w = .ok () w := run_eqGuard_agg w _ _ _ _ _ _ (by kernel_rfl)
theorem twelve_cells {W w : World} {t : TypeId} {a0 a1 a2 a3 a4 a5 b0 b1 b2 b3 b4 b5 : Value}
    (hb : Below (W.heap.size + 2) ((W.alloc (.cells #[a0, a1, a2, a3, a4, a5] t)).alloc (.cells #[b0, b1, b2, b3, b4, b5] t)) w) :
    (w.cell? ⟨W.heap.size, 0, none⟩ = some a0 ∧ w.cell? ⟨W.heap.size, 1, none⟩ = some a1 ∧ w.cell? ⟨W.heap.size, 2, none⟩ = some a2 ∧ w.cell? ⟨W.heap.size, 3, none⟩ = some a3 ∧ w.cell? ⟨W.heap.size, 4, none⟩ = some a4 ∧ w.cell? ⟨W.heap.size, 5, none⟩ = some a5) ∧
    (w.cell? ⟨W.heap.size + 1, 0, none⟩ = some b0 ∧ w.cell? ⟨W.heap.size + 1, 1, none⟩ = some b1 ∧ w.cell? ⟨W.heap.size + 1, 2, none⟩ = some b2 ∧ w.cell? ⟨W.heap.size + 1, 3, none⟩ = some b3 ∧ w.cell? ⟨W.heap.size + 1, 4, none⟩ = some b4 ∧ w.cell? ⟨W.heap.size + 1, 5, none⟩ = some b5) := by
  have h1 : w.heap[W.heap.size]? = some (.cells #[a0, a1, a2, a3, a4, a5] t (0, 0)) := by
    rw [hb.block _ (by omega)]
    have := heap_alloc_new W (.cells #[a0, a1, a2, a3, a4, a5] t)
    exact (((Below.refl _ (W.alloc (.cells #[a0, a1, a2, a3, a4, a5] t))).alloc (Nat.le_refl _) (.cells #[b0, b1, b2, b3, b4, b5] t)).block _ (by simp)).trans this
  have h2 : w.heap[W.heap.size + 1]? = some (.cells #[b0, b1, b2, b3, b4, b5] t (0, 0)) := by
    rw [hb.block _ (by omega)]
    have := heap_alloc_new (W.alloc (.cells #[a0, a1, a2, a3, a4, a5] t)) (.cells #[b0, b1, b2, b3, b4, b5] t)
    rw [World.size_alloc] at this
    exact this
  refine ⟨⟨?_, ?_, ?_, ?_, ?_, ?_⟩, ?_, ?_, ?_, ?_, ?_, ?_⟩
  all_goals (unfold World.cell?; first | (rw [h1]; rfl) | (rw [h2]; rfl))
set_option maxRecDepth 100000 in
set_option maxHeartbeats 8000000 in
theorem rsame_c (a : KT) : ∀ (b : KT) (W : World), KeyC W a → KeyC W b → Calls Tryz.prog 19 #[a.val, b.val] W fun e w' => e = .returned (.bool (sameK a b)) ∧ Below W.heap.size W w' := by
  induction a using KT.ind with
  | h kd fl set n s kids sp scap kp kcap ih =>
    intro b W hA hB
    obtain ⟨kd', fl', set', n', s', kids', sp', scap', kp', kcap'⟩ := b
    have IH := Lib.hid ih
    unfold KeyC at hA hB
    obtain ⟨_, _, ⟨hs1, hk1, _⟩, hset, hkids⟩ := hA
    obtain ⟨_, _, ⟨hs2, hk2, _⟩, hset', hkids'⟩ := hB
    unfold maxLen at hs1 hk1
    show Calls Tryz.prog 19 #[.agg #[.int .i64 kd, .int .u8 fl, .slice sp set.length scap, .int .u32 n, .string (txt s), .slice kp kids.length kcap], .agg #[.int .i64 kd', .int .u8 fl', .slice sp' set'.length scap', .int .u32 n', .string (txt s'), .slice kp' kids'.length kcap']] W _
    have hS : sameK (.mk kd fl set n s kids sp scap kp kcap) (.mk kd' fl' set' n' s' kids' sp' scap' kp' kcap') = ((kd == kd') && ((fl == fl') && ((n == n') && ((s == s') && ((set == set') && sameL kids kids'))))) := by rw [sameK]
    obtain ⟨Z, hZ⟩ : ∃ Z, sameK (.mk kd fl set n s kids sp scap kp kcap) (.mk kd' fl' set' n' s' kids' sp' scap' kp' kcap') = Z := ⟨_, rfl⟩
    rw [hZ] at hS ⊢
    have HA := Lib.hid hset
    have HA' := Lib.hid hset'
    have HK := Lib.hid hkids
    have HK' := Lib.hid hkids'
    have eX : ((txt s).toList == (txt s').toList) = (s == s') := by rw [Lib.toList_data, Lib.toList_data]; simp [txt]
    obtain ⟨X, hX⟩ : ∃ X, txt s = X := ⟨_, rfl⟩
    obtain ⟨X', hX'⟩ : ∃ X, txt s' = X := ⟨_, rfl⟩
    obtain ⟨M, hM⟩ : ∃ M, set.length = M := ⟨_, rfl⟩
    obtain ⟨M', hM'⟩ : ∃ M, set'.length = M := ⟨_, rfl⟩
    obtain ⟨N, hN⟩ : ∃ N, kids.length = N := ⟨_, rfl⟩
    obtain ⟨N', hN'⟩ : ∃ N, kids'.length = N := ⟨_, rfl⟩
    rw [hX, hX'] at eX ⊢
    rw [hM] at hs1 ⊢
    rw [hM', hN'] 
    rw [hN] at hk1 ⊢
    have HM := Lib.hid hM
    have HM' := Lib.hid hM'
    have HN := Lib.hid hN
    have HN' := Lib.hid hN'
    obtain ⟨w0, hw0⟩ : ∃ w0, (W.alloc (.cells #[.int .i64 kd, .int .u8 fl, .slice sp M scap, .int .u32 n, .string X, .slice kp N kcap] 26)).alloc (.cells #[.int .i64 kd', .int .u8 fl', .slice sp' M' scap', .int .u32 n', .string X', .slice kp' N' kcap'] 26) = w0 := ⟨_, rfl⟩
    have HB0 : Hid (Below W.heap.size W w0) := by
      show Below _ _ _
      rw [← hw0]; exact ((Below.refl _ _).alloc (Nat.le_refl _) _).alloc (by simp) _
    have hsz : w0.heap.size = W.heap.size + 2 := by rw [← hw0]; simp
    have H12 := fun w (hb : Below w0.heap.size w0 w) => twelve_cells (W := W) (w := w) (t := 26) (a0 := .int .i64 kd) (a1 := .int .u8 fl) (a2 := .slice sp M scap) (a3 := .int .u32 n) (a4 := .string X) (a5 := .slice kp N kcap) (b0 := .int .i64 kd') (b1 := .int .u8 fl') (b2 := .slice sp' M' scap') (b3 := .int .u32 n') (b4 := .string X') (b5 := .slice kp' N' kcap') (by rw [hw0, ← hsz]; exact hb)
    have H12 := Lib.hid H12
    have HW0 := Lib.hid hw0
    clear ih hset hset' hkids hkids' hZ hX hX' hM hM' hN hN' hw0 hs2 hk2
    obtain ⟨⟨c0, c1, c2, c3, c4, c5⟩, d0, d1, d2, d3, d4, d5⟩ := H12.out w0 (Below.refl _ _)
    have nb : ∀ a b : Nat, ((a : Int) != (b : Int)) = !(a == b) := fun a b => by
      by_cases h : a = b
      · subst h; simp
      · have h2 : ((a : Int) != b) = true := qN (by omega)
        have h3 : (a == b) = false := by rw [beq_eq_false_iff_ne]; exact h
        rw [h2, h3]; rfl
    obtain ⟨v1, e1⟩ : ∃ v, (kd == kd') = v := ⟨_, rfl⟩
    have f1 : (kd != kd') = !v1 := by rw [← e1]; rfl
    rw [e1] at hS
    cases v1
    · have HS := Lib.hid hS
      clear hS
      go_enter Tryz.func19, Tryz.ntmps19
      go_wp2_with fail
      go_ret
      exact ⟨by rw [HS.out]; try rfl, by rw [HW0.out]; exact HB0.out⟩
    rw [Bool.true_and] at hS
    obtain ⟨v2, e2⟩ : ∃ v, (fl == fl') = v := ⟨_, rfl⟩
    have f2 : ((fl : Int) != (fl' : Int)) = !v2 := by rw [nb, e2]
    rw [e2] at hS
    cases v2
    · have HS := Lib.hid hS
      clear hS
      go_enter Tryz.func19, Tryz.ntmps19
      go_wp2_with fail
      go_ret
      exact ⟨by rw [HS.out]; try rfl, by rw [HW0.out]; exact HB0.out⟩
    rw [Bool.true_and] at hS
    obtain ⟨v3, e3⟩ : ∃ v, (n == n') = v := ⟨_, rfl⟩
    have f3 : ((n : Int) != (n' : Int)) = !v3 := by rw [nb, e3]
    rw [e3] at hS
    cases v3
    · have HS := Lib.hid hS
      clear hS
      go_enter Tryz.func19, Tryz.ntmps19
      go_wp2_with fail
      go_ret
      exact ⟨by rw [HS.out]; try rfl, by rw [HW0.out]; exact HB0.out⟩
    rw [Bool.true_and] at hS
    obtain ⟨v4, e4⟩ : ∃ v, (s == s') = v := ⟨_, rfl⟩
    rw [e4] at eX
    rw [e4] at hS
    cases v4
    · have HS := Lib.hid hS
      clear hS
      go_enter Tryz.func19, Tryz.ntmps19
      go_wp2_with fail
      go_ret
      exact ⟨by rw [HS.out]; try rfl, by rw [HW0.out]; exact HB0.out⟩
    rw [Bool.true_and] at hS
    by_cases hMM : M ≠ M'
    · have f5 : ((M : Int) != (M' : Int)) = true := qN (by omega)
      have hse : (set == set') = false := by
        rw [beq_eq_false_iff_ne]
        intro e; subst e
        exact hMM (HM.out.symm.trans HM'.out)
      rw [hse] at hS
      have HS := Lib.hid hS
      clear hS
      go_enter Tryz.func19, Tryz.ntmps19
      go_wp2_with fail
      go_ret
      exact ⟨by rw [HS.out]; try rfl, by rw [HW0.out]; exact HB0.out⟩
    obtain rfl : M = M' := Decidable.not_not.1 hMM
    by_cases hNN : N ≠ N'
    · have f6 : ((N : Int) != (N' : Int)) = true := qN (by omega)
      have f6n : (N == N') = false := by rw [beq_eq_false_iff_ne]; exact hNN
      have hse : sameL kids kids' = false := by
        cases hv : sameL kids kids' with
        | false => rfl
        | true => exact absurd (HN.out.symm.trans ((sameL_len hv).trans HN'.out)) hNN
      rw [hse, Bool.and_false] at hS
      have HS := Lib.hid hS
      clear hS
      go_enter Tryz.func19, Tryz.ntmps19
      go_wp2_with fail
      go_ret
      exact ⟨by rw [HS.out]; try rfl, by rw [HW0.out]; exact HB0.out⟩
    obtain rfl : N = N' := Decidable.not_not.1 hNN
    have HS := Lib.hid hS
    clear hS
    go_enter Tryz.func19, Tryz.ntmps19
    go_wp2_with fail
    rw [HW0.out]
    go_loopw [5] (fun t5 wr => ∃ j : Nat, j ≤ M ∧ t5 = .int .i64 j ∧ Hid (∀ i, i < j → set[i]? = set'[i]?) ∧ Hid (Below w0.heap.size w0 wr)) (fun t5 _ => M - (intOf t5).toNat)
    case atStart => exact ⟨0, Nat.zero_le _, rfl, fun i hi => absurd hi (Nat.not_lt_zero _), Below.refl _ _⟩
    case round =>
      obtain ⟨j, hj, rfl, HE, HB⟩ := hrel
      clear c0 c1 c2 c3 c4 c5 d0 d1 d2 d3 d4 d5
      obtain ⟨⟨c0, c1, c2, c3, c4, c5⟩, d0, d1, d2, d3, d4, d5⟩ := H12.out wr HB.out
      by_cases hlt : j < M
      · have hq : (j : Int) < M := by omega
        have hq0 : (0 : Int) ≤ j := by omega
        have hWr : Below W.heap.size W wr := HB0.out.trans (HB.out.mono HB0.out.size)
        obtain ⟨r, hr⟩ : ∃ r, set[j]? = some r := ⟨_, List.getElem?_eq_getElem (by rw [HM.out]; exact hlt)⟩
        obtain ⟨r', hr'⟩ : ∃ r, set'[j]? = some r := ⟨_, List.getElem?_eq_getElem (by rw [HM'.out]; exact hlt)⟩
        obtain ⟨b1, o1, rfl, _, k1, k2⟩ := (HA.out.below hWr) j r hr
        obtain ⟨b2, o2, rfl, _, k3, k4⟩ := (HA'.out.below hWr) j r' hr'
        obtain ⟨r1, r2⟩ := r
        obtain ⟨r3, r4⟩ := r'
        dsimp only at k1 k2 k3 k4
        have hnq := neq_range r1 r2 r3 r4
        have hng := neq_guard
        obtain ⟨v, hv⟩ : ∃ v, (((r1, r2) : Nat × Nat) == (r3, r4)) = v := ⟨_, rfl⟩
        rw [hv] at hnq
        cases v
        · have hne : (set == set') = false := by
            rw [beq_eq_false_iff_ne]
            intro e
            rw [e, hr'] at hr
            have := Option.some.inj hr
            rw [this] at hv
            simp at hv
          have HZ : Hid (Z = false) := by show _ = _; rw [HS.out, hne]; rfl
          clear hv hr hr' hne
          go_wp2_with fail
          go_quiet (fail)
          go_wp2_with fail
          go_ret
          exact ⟨by rw [HZ.out]; try rfl, below_drewN (HB0.out.trans (HB.out.mono HB0.out.size)) nq⟩
        · have hre : (r1, r2) = (r3, r4) := by simpa using hv
          have HE2 : Hid (∀ i, i < j + 1 → set[i]? = set'[i]?) := fun i hi => by
            by_cases h : i < j
            · exact HE.out i h
            · obtain rfl : i = j := by omega
              rw [hr, hr', hre]
          clear hv hr hr' hre
          go_wp2_with fail
          go_quiet (fail)
          go_wp2_with fail
          go_roundw
          case rel => exact ⟨j + 1, by omega, by go_num, HE2.out, below_drewN HB.out nq⟩
          case measure => simp [intOf]; omega
      · obtain rfl : j = M := by omega
        have hset : set = set' := by
          apply List.ext_getElem?
          intro i
          by_cases h : i < j
          · exact HE.out i h
          · rw [List.getElem?_eq_none (by rw [HM.out]; omega), List.getElem?_eq_none (by rw [HM'.out]; omega)]
        have HZ : Hid (Z = sameL kids kids') := by
          show _ = _
          rw [HS.out, hset]
          simp
        have hq : ¬ ((j : Int) < j) := by omega
        clear hset HE
        go_wp2_with fail
        go_loopw [6] (fun t6 wz => ∃ i : Nat, i ≤ N ∧ t6 = .int .i64 i ∧ Hid (∀ (q : Nat) (a b : KT), q < i → kids[q]? = some a → kids'[q]? = some b → sameK a b = true) ∧ Hid (Below w0.heap.size w0 wz)) (fun t6 _ => N - (intOf t6).toNat)
        case atStart => exact ⟨0, Nat.zero_le _, rfl, fun q a b hq => absurd hq (Nat.not_lt_zero _), HB.out⟩
        case round =>
          obtain ⟨i, hi, rfl, HE, HBz⟩ := hrel
          clear c0 c1 c2 c3 c4 c5 d0 d1 d2 d3 d4 d5
          obtain ⟨⟨_, _, _, _, _, c5⟩, _, _, _, _, _, d5⟩ := H12.out wr HBz.out
          by_cases hlt2 : i < N
          · have hq2 : (i : Int) < N := by omega
            have hq20 : (0 : Int) ≤ i := by omega
            have hWr : Below W.heap.size W wr := HB0.out.trans (HBz.out.mono HB0.out.size)
            obtain ⟨a1, ha1⟩ : ∃ a, kids[i]? = some a := ⟨_, List.getElem?_eq_getElem (by rw [HN.out]; exact hlt2)⟩
            obtain ⟨a2, ha2⟩ : ∃ a, kids'[i]? = some a := ⟨_, List.getElem?_eq_getElem (by rw [HN'.out]; exact hlt2)⟩
            obtain ⟨b1, o1, rfl, hl1, k1, K1⟩ := KidsC.at kids kp 0 i a1 HK.out ha1
            obtain ⟨b2, o2, rfl, hl2, k2, K2⟩ := KidsC.at kids' kp' 0 i a2 HK'.out ha2
            have C := fun w (hb : Below W.heap.size W w) => IH.out a1 (List.mem_of_getElem? ha1) a2 w (KeyC.below hb _ K1) (KeyC.below hb _ K2)
            have hex := HE.out
            have hsame : sameK a1 a2 = false → sameL kids kids' = false := fun h => by
              cases hv : sameL kids kids' with
              | false => rfl
              | true => rw [sameL_at hv ha1 ha2] at h; cases h
            have hnext : sameK a1 a2 = true → ∀ (q : Nat) (a b : KT), q < i + 1 → kids[q]? = some a → kids'[q]? = some b → sameK a b = true := fun h q a b hq ha hb => by
              by_cases hqi : q < i
              · exact hex q a b hqi ha hb
              · obtain rfl : q = i := by omega
                rw [ha1] at ha; rw [ha2] at hb
                cases ha; cases hb
                exact h
            rw [Nat.zero_add] at k1 k2
            obtain ⟨x0, x1, x2, x3, x4, x5, x6, x7, x8, x9⟩ := a1
            obtain ⟨y0, y1, y2, y3, y4, y5, y6, y7, y8, y9⟩ := a2
            obtain ⟨z, hz⟩ : ∃ z, sameK (.mk x0 x1 x2 x3 x4 x5 x6 x7 x8 x9) (.mk y0 y1 y2 y3 y4 y5 y6 y7 y8 y9) = z := ⟨_, rfl⟩
            rw [hz] at hsame hnext
            simp only [hz] at C
            have C : Hid (∀ w, Below W.heap.size W w → Calls Tryz.prog 19 #[.agg #[.int .i64 x0, .int .u8 x1, .slice x6 x2.length x7, .int .u32 x3, .string (txt x4), .slice x8 x5.length x9], .agg #[.int .i64 y0, .int .u8 y1, .slice y6 y2.length y7, .int .u32 y3, .string (txt y4), .slice y8 y5.length y9]] w fun e w' => e = .returned (.bool z) ∧ Below w.heap.size w w') := C
            have p0 := k1 0 _ rfl
            have p1 := k1 1 _ rfl
            have p2 := k1 2 _ rfl
            have p3 := k1 3 _ rfl
            have p4 := k1 4 _ rfl
            have p5 := k1 5 _ rfl
            have q0 := k2 0 _ rfl
            have q1 := k2 1 _ rfl
            have q2 := k2 2 _ rfl
            have q3 := k2 3 _ rfl
            have q4 := k2 4 _ rfl
            have q5 := k2 5 _ rfl
            rw [Nat.add_zero] at p0 q0
            obtain ⟨s1, hs1⟩ : ∃ s1, o1 + i * 6 = s1 := ⟨_, rfl⟩
            obtain ⟨s2, hs2⟩ : ∃ s2, o2 + i * 6 = s2 := ⟨_, rfl⟩
            rw [hs1] at p0 p1 p2 p3 p4 p5
            rw [hs2] at q0 q1 q2 q3 q4 q5
            have KS : Hid (∀ w, Below w0.heap.size w0 w → (w.cell? ⟨W.heap.size, 5, none⟩ = some (.slice (some ⟨b1, o1, none⟩) N kcap) ∧ w.cell? ⟨W.heap.size + 1, 5, none⟩ = some (.slice (some ⟨b2, o2, none⟩) N kcap')) ∧
                (w.cell? ⟨b1, s1, none⟩ = some (.int .i64 x0) ∧ w.cell? ⟨b1, s1 + 1, none⟩ = some (.int .u8 x1) ∧ w.cell? ⟨b1, s1 + 2, none⟩ = some (.slice x6 x2.length x7) ∧ w.cell? ⟨b1, s1 + 3, none⟩ = some (.int .u32 x3) ∧ w.cell? ⟨b1, s1 + 4, none⟩ = some (.string (txt x4)) ∧ w.cell? ⟨b1, s1 + 5, none⟩ = some (.slice x8 x5.length x9)) ∧
                (w.cell? ⟨b2, s2, none⟩ = some (.int .i64 y0) ∧ w.cell? ⟨b2, s2 + 1, none⟩ = some (.int .u8 y1) ∧ w.cell? ⟨b2, s2 + 2, none⟩ = some (.slice y6 y2.length y7) ∧ w.cell? ⟨b2, s2 + 3, none⟩ = some (.int .u32 y3) ∧ w.cell? ⟨b2, s2 + 4, none⟩ = some (.string (txt y4)) ∧ w.cell? ⟨b2, s2 + 5, none⟩ = some (.slice y8 y5.length y9))) := fun w hb => by
              have hW : Below W.heap.size W w := HB0.out.trans (hb.mono HB0.out.size)
              obtain ⟨⟨_, _, _, _, _, g5⟩, _, _, _, _, _, h5⟩ := H12.out w hb
              have f1 : ∀ o v, W.cell? ⟨b1, o, none⟩ = some v → w.cell? ⟨b1, o, none⟩ = some v := fun o v h => (hW.cell (p := ⟨b1, o, none⟩) hl1).trans h
              have f2 : ∀ o v, W.cell? ⟨b2, o, none⟩ = some v → w.cell? ⟨b2, o, none⟩ = some v := fun o v h => (hW.cell (p := ⟨b2, o, none⟩) hl2).trans h
              exact ⟨⟨g5, h5⟩, ⟨f1 _ _ p0, f1 _ _ p1, f1 _ _ p2, f1 _ _ p3, f1 _ _ p4, f1 _ _ p5⟩, f2 _ _ q0, f2 _ _ q1, f2 _ _ q2, f2 _ _ q3, f2 _ _ q4, f2 _ _ q5⟩
            have HBx : Hid (Below w0.heap.size w0 wr) := HBz
            have HSM := Lib.hid hsame
            have HNX := Lib.hid hnext
            clear p0 p1 p2 p3 p4 p5 q0 q1 q2 q3 q4 q5 k1 k2 K1 K2 ha1 ha2 hz hsame hnext hex HE
            go_wp2_with fail
            go_region_held3 (fun w => (w.cell? ⟨W.heap.size, 5, none⟩ = some (.slice (some ⟨b1, o1, none⟩) N kcap) ∧ w.cell? ⟨W.heap.size + 1, 5, none⟩ = some (.slice (some ⟨b2, o2, none⟩) N kcap')) ∧
                (w.cell? ⟨b1, s1, none⟩ = some (.int .i64 x0) ∧ w.cell? ⟨b1, s1 + 1, none⟩ = some (.int .u8 x1) ∧ w.cell? ⟨b1, s1 + 2, none⟩ = some (.slice x6 x2.length x7) ∧ w.cell? ⟨b1, s1 + 3, none⟩ = some (.int .u32 x3) ∧ w.cell? ⟨b1, s1 + 4, none⟩ = some (.string (txt x4)) ∧ w.cell? ⟨b1, s1 + 5, none⟩ = some (.slice x8 x5.length x9)) ∧
                (w.cell? ⟨b2, s2, none⟩ = some (.int .i64 y0) ∧ w.cell? ⟨b2, s2 + 1, none⟩ = some (.int .u8 y1) ∧ w.cell? ⟨b2, s2 + 2, none⟩ = some (.slice y6 y2.length y7) ∧ w.cell? ⟨b2, s2 + 3, none⟩ = some (.int .u32 y3) ∧ w.cell? ⟨b2, s2 + 4, none⟩ = some (.string (txt y4)) ∧ w.cell? ⟨b2, s2 + 5, none⟩ = some (.slice y8 y5.length y9)))
              (first | exact KS.out _ HBx.out | exact KS.out _ HBx.out.drew)
              (first | (go_at_call 19; refine (C.out _ (by first | exact HB0.out.trans (HBx.out.mono HB0.out.size) | exact (HB0.out.trans (HBx.out.mono HB0.out.size)).drew)).mono ?_; rintro e wx ⟨rfl, hb⟩; have HBx : Hid (Below w0.heap.size w0 wx) := (by first | exact HBx.out.trans (hb.mono HBx.out.size) | exact HBx.out.drew.trans (hb.mono HBx.out.size)); clear hb))
            all_goals
              cases z
              · have HZ2 : Hid (Z = false) := HZ.out.trans (HSM.out rfl)
                go_wp2_with fail
                go_ret
                exact ⟨by rw [HZ2.out]; try rfl, HB0.out.trans (HBx.out.mono HB0.out.size)⟩
              · have HNX2 := Lib.hid (HNX.out rfl)
                go_wp2_with fail
                go_roundw
                case rel => exact ⟨i + 1, by omega, by go_num, HNX2.out, HBx.out⟩
                case measure => simp [intOf]; omega
          · obtain rfl : i = N := by omega
            have hq2 : ¬ ((i : Int) < i) := by omega
            have HZ2 : Hid (Z = true) := HZ.out.trans (sameL_all (HN.out.trans HN'.out.symm) fun q a b ha hb => HE.out q a b (by have := (List.getElem?_eq_some_iff.1 ha).1; rw [HN.out] at this; exact this) ha hb)
            go_wp2_with fail
            go_ret
            exact ⟨by rw [HZ2.out]; try rfl, HB0.out.trans (HBz.out.mono HB0.out.size)⟩
def NodeP (kind : Int) (fl M n sl N : Nat) : Prop :=
  0 ≤ kind ∧ kind ≤ 10 ∧ (fl ≠ 0 ↔ (kind = 1 ∨ kind = 2)) ∧ (fl ≠ 0 → fl = 1 ∨ fl = 2 ∨ fl = 4 ∨ fl = 8 ∨ fl = 16) ∧ (0 < M ↔ (kind = 3 ∨ kind = 4)) ∧ M ≤ 64 ∧ (n ≠ 0 → kind = 5 ∨ kind = 6) ∧ (0 < sl → kind = 7) ∧ sl ≤ 65536 ∧
    (kind < 8 → N = 0) ∧ (kind = 8 → N = 1) ∧ (kind = 9 → N = 2) ∧ (kind = 10 → N ≠ 0)
instance (kind : Int) (fl M n sl N : Nat) : Decidable (NodeP kind fl M n sl N) := by unfold NodeP; infer_instance
mutual
def rightK : KT → Int → Bool
  | .mk kind flag set n s kids _ _ _ _, d => decide (1 ≤ d) && (decide (NodeP kind flag set.length n s.length kids.length) && rightL kids (d - 1))
def rightL : List KT → Int → Bool
  | [], _ => true
  | k :: r, d => rightK k d && rightL r d
end
theorem rightL_at : ∀ {l : List KT} {d : Int} {k : KT}, rightL l d = true → k ∈ l → rightK k d = true
  | [], d, k, h, hk => by simp at hk
  | a :: r, d, k, h, hk => by
    unfold rightL at h
    rw [Bool.and_eq_true] at h
    rcases List.mem_cons.1 hk with e | hk
    · rw [e]; exact h.1
    · exact rightL_at h.2 hk
theorem rightL_all : ∀ {l : List KT} {d : Int}, (∀ k ∈ l, rightK k d = true) → rightL l d = true
  | [], d, h => by unfold rightL; rfl
  | a :: r, d, h => by
    unfold rightL
    rw [h a (by simp), rightL_all (l := r) fun k hk => h k (by simp [hk])]
    rfl
def RightIH (kids : List KT) : Prop := ∀ k ∈ kids, ∀ (d : Int) (W : World), 0 ≤ d → d ≤ 4611686018427387904 → KeyC W k → Calls Tryz.prog 13 #[k.val, .int .i64 d] W fun e w' => e = .returned (.bool (rightK k d)) ∧ Below W.heap.size W w'
def oneFl (fl : Nat) : Bool := fl == 1 || fl == 2 || fl == 4 || fl == 8 || fl == 16
theorem oneFl_count : ∀ fl : Nat, fl < 256 → (Lib.onesCount fl == 1 && decide (fl ≤ 16)) = oneFl fl := by decide +kernel
set_option maxRecDepth 20000 in
theorem sSingle_c (fl : Nat) (hfl : fl < 256) (w : World) : Calls Tryz.prog 120 #[.int .u8 fl] w fun e w' => e = .returned (.bool (oneFl fl)) ∧ w' = w := by
  have C := Tryz.bits_OnesCount8 (fl : Int) w (by omega) (by omega)
  rw [Int.toNat_natCast] at C
  have h := oneFl_count fl hfl
  obtain ⟨N, hN⟩ : ∃ N, Lib.onesCount fl = N := ⟨_, rfl⟩
  rw [hN] at C h
  rw [← h]
  clear h hN
  have C := Lib.hid C
  go_enter Tryz.func120, Tryz.ntmps120
  go_wp2_with (first | (go_at_call 176; refine (C.out).mono ?_; rintro e w1 ⟨rfl, rfl⟩) | fail)
  · rename_i h
    go_ret
    refine ⟨?_, rfl⟩
    have hN1 : N = 1 := by omega
    have e : decide ((fl : Int) ≤ 16) = decide (fl ≤ 16) := by simp; omega
    rw [hN1, e]
    rfl
  · rename_i h
    go_ret
    refine ⟨?_, rfl⟩
    have hN1 : (N == 1) = false := by simp; omega
    have e : ((N : Int) == 1) = false := by simp; omega
    rw [hN1]
    rfl
end Go.Proofs.YtpnnchpaaopdcaaGreatDoor
namespace Go.Proofs.YtpnnchpaaopdcaaGreatDoor
open Go Go.RowKit Go.Shelf
theorem sizeBuilder : (Tryz.prog.info? 171).map (·.size) = some 2 := by kernel_rfl
theorem liesBuilder : liesAt Tryz.prog Tryz.prog.depth 171 (2 / Tryz.prog.cellsOf 171) 0 171 1 = true := by kernel_rfl
theorem infoByte : (Tryz.prog.info? 5).map (fun i => (i.zero, i.size, i.bytes)) = some (some (.int .u8 0), 1, 1) := by kernel_rfl
set_option maxRecDepth 100000 in
set_option maxHeartbeats 1000000 in
theorem copyCheck_c (B b : Nat) (bs : List Value) (w : World) (h : Lib.IsBuilderF 171 5 B b bs w) :
    Calls Tryz.prog 193 #[.pointer (some ⟨b, 0, none⟩)] w fun e w' => e = .returned (.tuple #[]) ∧ (Lib.BuilderAtF 171 5 B b (.pointer (some ⟨b, 0, none⟩)) bs w' ∧ Below B w w' ∧ Lib.OthersKept 5 (some b) w w') := by
  rcases h with h | h
  · have h0 := h.cell0
    have hsh := h.shape
    have hfz := h.frozen0
    have H := Lib.hid h
    clear h
    go_enter Tryz.func193, Tryz.ntmps193
    go_wp2
    obtain ⟨j, hj, hjs⟩ := Option.map_eq_some_iff.1 sizeBuilder
    rw [Lib.run_to_unsafe w ⟨b, 0, none⟩ Tryz.underlying169 Tryz.underlying244 hj (by rw [hjs]; decide) hsh (Nat.zero_lt_succ 1)]
    simp only [Result.andThen]
    rw [Oper.upon_value]
    have HJ := Lib.hid hj
    have HJS := Lib.hid hjs
    clear hj hjs
    go_wp2
    rw [run_callFunc_extern Tryz.func229 (by kernel_rfl) (by kernel_rfl) (by kernel_rfl) (e := Extern.AbiNoEscape.same) (by kernel_rfl)]
    rw [Lib.run_noEscape]
    simp only [Result.andThen]
    rw [Oper.upon_value]
    go_wp2
    rw [Lib.run_from_unsafe w ⟨b, 0, none⟩ Tryz.underlying244 Tryz.underlying169 HJ.out hsh liesBuilder]
    simp only [Result.andThen]
    rw [Oper.upon_value]
    go_wp2
    go_end0
    exact ⟨rfl, H.out.used _, (Below.refl B w).setCell (p := ⟨b, 0, none⟩) H.out.1 _, (Lib.OthersKept.refl _ _ w).setCell ⟨b, 0, none⟩ rfl _⟩
  · have h0 := h.cell0
    have H := Lib.hid h
    clear h
    go_enter Tryz.func193, Tryz.ntmps193
    go_wp2
    obtain ⟨j, hj, hjs⟩ := Option.map_eq_some_iff.1 sizeBuilder
    rw [Lib.run_neq_ptr_same w _ Tryz.underlying169 hj]
    clear hj hjs
    go_wp2
    go_end0
    exact ⟨rfl, H.out, Below.refl B _, Lib.OthersKept.refl _ _ _⟩
set_option maxHeartbeats 2000000 in
set_option maxRecDepth 100000 in
theorem writeByte_c (B b : Nat) (bs : List Value) (c : Int) (w : World) (h : Lib.IsBuilderF 171 5 B b bs w) (hlen : bs.length + 1 ≤ 140737488355328) (hBw : B ≤ w.heap.size) :
    Calls Tryz.prog 152 #[.pointer (some ⟨b, 0, none⟩), .int .u8 c] w fun e w' => e = .returned .nilIface ∧ (Lib.BuilderAtF 171 5 B b (.pointer (some ⟨b, 0, none⟩)) (bs ++ [.int .u8 c]) w' ∧ Below B w w' ∧ Lib.OthersKept 5 (some b) w w') := by
  obtain ⟨i0, hi, hz0, hz1, hz2⟩ := info_parts infoByte
  go_enter Tryz.func152, Tryz.ntmps152
  go_wp2_with (go_at_call 193; refine (copyCheck_c B b bs _ h).mono ?_)
  rintro e w1 ⟨rfl, h1, hb1, hk1⟩
  obtain ⟨hB, v, hbk, hown, hne⟩ := h1
  have c0 : w1.cell? ⟨b, 0, none⟩ = some (.pointer (some ⟨b, 0, none⟩)) := by rw [Lib.cell_of_heap hbk]; rfl
  have c1 : w1.cell? ⟨b, 1, none⟩ = some v := by rw [Lib.cell_of_heap hbk]; rfl
  go_wp2_with (at_builtin; refine wpList_append_ownF _ rfl _ _ 97 rfl B 5 i0 (.int .u8 0) 1 1 Tryz.underlying97 hi hz0 hz1 hz2 rfl (by decide) _ _ _ rfl (hown.alloc _) ⟨w1.heap.size, 0, none⟩ 1 1 [.int .u8 c] rfl rfl ?c1 ?c2 ?c3 ?c4 ?c5 ?_)
  case c1 =>
    intro j u hj
    match j, hj with
    | 0, hj => simp at hj; subst hj; simp [Addr.add]
  case c2 => intro u hu; simp at hu; subst hu; rfl
  case c3 => unfold maxLen; omega
  case c4 => omega
  case c5 => have := hb1.size; simp; omega
  intro v' w2 hown' hgrow _
  have hlt : b < w1.heap.size := (Array.getElem?_eq_some_iff.1 hbk).1
  have hb2 : w2.heap[b]? = some (.cells #[.pointer (some ⟨b, 0, none⟩), v] 171 (0, 0)) := by
    rw [hgrow.block b (by simp; omega) (fun e => hne e.symm), Lib.alloc_old w1 _ b hlt]
    exact hbk
  have d0 : w2.cell? ⟨b, 0, none⟩ = some (.pointer (some ⟨b, 0, none⟩)) := by rw [Lib.cell_of_heap hb2]; rfl
  have d1 : w2.cell? ⟨b, 1, none⟩ = some v := by rw [Lib.cell_of_heap hb2]; rfl
  have f1 : w2.frozen? ⟨b, 1, none⟩ = false := Lib.frozen_of_heap hb2 1
  obtain ⟨g, cap, rfl⟩ : ∃ g cap, v' = .slice (some ⟨g, 0, none⟩) (bs.length + 1) cap := by
    rcases hown'.2 with ⟨_, h0⟩ | ⟨g, cap, cur, fz, hv, _⟩
    · omega
    · exact ⟨g, cap, hv⟩
  go_wp2
  go_ret
  refine ⟨rfl, ?_, ?_, ((hk1.alloc _).grown hgrow (Lib.ownsRowF_kind (hown.alloc _))).setCell ⟨b, 1, none⟩ rfl _⟩
  · exact Lib.BuilderAtF.put (T := 171) (e := 5) hB hb2 (bs' := bs ++ [.int .u8 c]) (by simpa using hown') (by decide)
  · exact ((hb1.alloc (by have := hb1.size; omega) _).grown hgrow (by have := hb1.size; simp; omega) (fun k hk => (hown.lt k hk).1)).setCell (p := ⟨b, 1, none⟩) hB _
set_option maxHeartbeats 2000000 in
set_option maxRecDepth 100000 in
theorem writeString_c (B b : Nat) (bs : List Value) (s : ByteArray) (w : World) (h : Lib.IsBuilderF 171 5 B b bs w) (hlen : bs.length + s.size ≤ 140737488355328) (hBw : B ≤ w.heap.size) :
    Calls Tryz.prog 155 #[.pointer (some ⟨b, 0, none⟩), .string s] w fun e w' => e = .returned (.tuple #[.int .i64 s.size, .nilIface]) ∧ (Lib.BuilderAtF 171 5 B b (.pointer (some ⟨b, 0, none⟩)) (bs ++ Lib.strCells s) w' ∧ Below B w w' ∧ Lib.OthersKept 5 (some b) w w') := by
  obtain ⟨i0, hi, hz0, hz1, hz2⟩ := info_parts infoByte
  go_enter Tryz.func155, Tryz.ntmps155
  go_wp2_with (go_at_call 193; refine (copyCheck_c B b bs _ h).mono ?_)
  rintro e w1 ⟨rfl, h1, hb1, hk1⟩
  obtain ⟨hB, v, hbk, hown, hne⟩ := h1
  have c0 : w1.cell? ⟨b, 0, none⟩ = some (.pointer (some ⟨b, 0, none⟩)) := by rw [Lib.cell_of_heap hbk]; rfl
  have c1 : w1.cell? ⟨b, 1, none⟩ = some v := by rw [Lib.cell_of_heap hbk]; rfl
  go_wp2_with (at_builtin; refine Lib.wpList_append_own_stringF _ rfl _ _ 97 9 rfl B 5 i0 Tryz.underlying97 Tryz.underlying9 hi hz0 hz1 hz2 _ _ _ rfl hown s rfl ?c3 ?c4 ?c5 ?_)
  case c3 => unfold maxLen; omega
  case c4 => omega
  case c5 => have := hb1.size; omega
  intro v' w2 hown' hgrow _
  have hlt : b < w1.heap.size := (Array.getElem?_eq_some_iff.1 hbk).1
  have hb2 : w2.heap[b]? = some (.cells #[.pointer (some ⟨b, 0, none⟩), v] 171 (0, 0)) := by
    rw [hgrow.block b hlt (fun e => hne e.symm)]
    exact hbk
  have d0 : w2.cell? ⟨b, 0, none⟩ = some (.pointer (some ⟨b, 0, none⟩)) := by rw [Lib.cell_of_heap hb2]; rfl
  have d1 : w2.cell? ⟨b, 1, none⟩ = some v := by rw [Lib.cell_of_heap hb2]; rfl
  have f1 : w2.frozen? ⟨b, 1, none⟩ = false := Lib.frozen_of_heap hb2 1
  obtain ⟨ao, n', cap, rfl⟩ : ∃ ao n' cap, v' = .slice ao n' cap := by
    rcases hown'.2 with ⟨hv, _⟩ | ⟨g, cap, cur, fz, hv, _⟩
    · exact ⟨_, _, _, hv⟩
    · exact ⟨_, _, _, hv⟩
  go_wp2
  go_ret2
  refine ⟨rfl, ?_, ?_, (hk1.grown hgrow (Lib.ownsRowF_kind hown)).setCell ⟨b, 1, none⟩ rfl _⟩
  · exact Lib.BuilderAtF.put (T := 171) (e := 5) hB hb2 (bs' := bs ++ Lib.strCells s) (by simpa [Lib.strCells_length] using hown') (by decide)
  · exact (hb1.grown hgrow (by have := hb1.size; omega) (fun k hk => (hown.lt k hk).1)).setCell (p := ⟨b, 1, none⟩) hB _
end Go.Proofs.YtpnnchpaaopdcaaGreatDoor

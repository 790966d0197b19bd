/-
  Readers of texts, as lists of bytes: what a reader has left, and whether it gave up; what it answers.
  The program's reader: to give up, what is left, what comes next, all bytes that are so: contracts.
  Rows of bytes that a conversion laid; a text of one byte.
  A text with great letters, by the program and by the document: contracts.
  The program's reader: words, blanks, rows of bytes: contracts.
  The program's reader: all bytes that are so; atoms, numbers: contracts.
  search.ReadSet's closure: is it a byte of a set? And While with it. MADE by wip/tools/mkSr1.py.
  The program's reader: atoms, numbers, literals: contracts.
  The last step of a law's row.
  Keys of a search, as trees; how a key of the document lies; an argument that is a key, opened.
  How many keys a key has (the law's own count): contract.
  A range over a function, for iterators that turn some elder blocks too (a map that they share): XIter's law with these blocks told, and with what the iterator leaves behind.
-/
import Derived.Test.YtdpmnmiimfhlhaaGreatDoorZL05
import Derived.Test.YtdpmnmiimfhlhaaGreatDoorZL01
import Derived.LoopTactic
import Derived.Deep.LoopGhost
import Derived.OwnWalk
import Derived.Lib.Strings
import Derived.Deep.QuietTactic
import Derived.Lib.ConvBytes
import Derived.Lib.SmallJoins
import Derived.Laws.IdiomStrings
import Derived.MapKept
import Derived.Lib.ParseIntBCases
import Derived.Lib.AtoiErrMem
import Derived.Test.YtdpmnmiimfhlhaaGreatDoorRows
import Derived.WalkKit
import Derived.ProofKit
import Derived.OpenShut
import Derived.Stop.Joined
import Derived.ChangeSame
import Derived.Carry
import Derived.ChangeOld
import Derived.Deep.Slices
import Derived.Deep.Fields
import Derived.BigQuiet
set_option linter.unusedVariables false
set_option linter.unusedSimpArgs false
namespace Go.Proofs.YtdpmnmiimfhlhaaGreatDoor
open Go Go.RowKit

theorem data_txt (l : List UInt8) : (txt l).data.toList = l := by simp [txt]
theorem txt_inj {a b : List UInt8} (h : txt a = txt b) : a = b := by rw [← data_txt a, h, data_txt]
theorem ext_take (l : List UInt8) {k : Nat} : (txt l).extract 0 k = txt (l.take k) := extract_txt (by rw [data_txt]; rfl)
theorem ext_drop (l : List UInt8) {k n : Nat} (hn : n = l.length) : (txt l).extract k n = txt (l.drop k) := extract_txt (by rw [data_txt, hn, List.take_of_length_le (Nat.le_refl _)])
theorem ext_mid (l : List UInt8) {a b : Nat} : (txt l).extract a b = txt ((l.take b).drop a) := extract_txt (by rw [data_txt])
theorem at_txt {l : List UInt8} {k : Nat} (h : k < l.length) : (txt l)[k]'(by rw [txt_size]; exact h) = l[k] := by
  show l.toArray[k] = _
  simp
theorem isEmpty_txt' (l : List UInt8) : (txt l).toList.isEmpty = l.isEmpty := by
  rw [ByteArray.toList_eq, data_txt]

/-! Blocks of cells. -/
def Cells (W : World) (B : Nat) (t : TypeId) (cur : Array Value) : Prop := W.heap[B]? = some (.cells cur t (0, 0))
theorem Cells.lt {W : World} {B : Nat} {t : TypeId} {cur : Array Value} (h : Cells W B t cur) : B < W.heap.size := (Array.getElem?_eq_some_iff.1 h).1
theorem Cells.cell {W : World} {B : Nat} {t : TypeId} {cur : Array Value} (h : Cells W B t cur) {i : Nat} {v : Value} (hi : cur[i]? = some v) : W.cell? ⟨B, i, none⟩ = some v := by
  have h' : W.heap[B]? = _ := h
  simp [World.cell?, h', hi]
theorem Cells.frozen {W : World} {B : Nat} {t : TypeId} {cur : Array Value} (h : Cells W B t cur) (i : Nat) : W.frozen? ⟨B, i, none⟩ = false := by
  have h' : W.heap[B]? = _ := h
  simp [World.frozen?, h']
theorem Cells.set {W : World} {B : Nat} {t : TypeId} {cur : Array Value} (h : Cells W B t cur) (i : Nat) (v : Value) : Cells (W.setCell ⟨B, i, none⟩ v) B t (cur.setIfInBounds i v) := by
  obtain ⟨hlt, hk⟩ := Array.getElem?_eq_some_iff.1 h
  show (W.heap.modify B _)[B]? = _
  rw [Array.getElem?_eq_getElem (by rw [Array.size_modify]; exact hlt), Array.getElem_modify_self, hk]
  rfl
theorem Cells.later {W W' : World} {B : Nat} {t : TypeId} {cur : Array Value} (h : Cells W B t cur) (hb : W'.heap[B]? = W.heap[B]?) : Cells W' B t cur := hb.trans h
theorem size_setCell (W : World) (a : Addr) (v : Value) : (W.setCell a v).heap.size = W.heap.size := by show (W.heap.modify _ _).size = _; rw [Array.size_modify]

/-- Of what was there, one block alone may turn. -/
structure Tk (g : Nat) (w w' : World) : Prop where
  os : w'.os = w.os
  tape : w'.tape = w.tape
  output : w'.output = w.output
  size : w.heap.size ≤ w'.heap.size
  blk : ∀ k, k < w.heap.size → k ≠ g → w'.heap[k]? = w.heap[k]?
theorem Tk.refl (g : Nat) (w : World) : Tk g w w := ⟨rfl, rfl, rfl, Nat.le_refl _, fun _ _ _ => rfl⟩
theorem Tk.trans {g : Nat} {a b c : World} (h : Tk g a b) (h' : Tk g b c) : Tk g a c :=
  ⟨h'.os.trans h.os, h'.tape.trans h.tape, h'.output.trans h.output, Nat.le_trans h.size h'.size, fun k hk hg => (h'.blk k (Nat.lt_of_lt_of_le hk h.size) hg).trans (h.blk k hk hg)⟩
theorem Tk.of_below {g : Nat} {a b : World} (h : Below a.heap.size a b) : Tk g a b := ⟨h.os, h.tape, h.output, h.size, fun k hk _ => h.block k hk⟩
theorem Tk.below {g B : Nat} {a b : World} (h : Tk g a b) (hB : B ≤ g) (hs : B ≤ a.heap.size) : Below B a b := ⟨h.os, h.tape, h.output, h.size, fun k hk => h.blk k (by omega) (by omega)⟩
theorem Tk.drewN {g : Nat} {a b : World} (h : Tk g a b) (n : Nat) : Tk g a (b.drewN n) := ⟨h.os, h.tape, h.output, h.size, h.blk⟩
theorem Tk.alloc {g : Nat} {a b : World} (h : Tk g a b) (o : Obj) : Tk g a (b.alloc o) := h.trans (Tk.of_below ((Below.refl _ b).alloc (Nat.le_refl _) o))
theorem Tk.set {g : Nat} (a : World) (i : Nat) (v : Value) : Tk g a (a.setCell ⟨g, i, none⟩ v) := ⟨rfl, rfl, rfl, by rw [size_setCell]; exact Nat.le_refl _, fun k _ hk => Below.heap_setCell a ⟨g, i, none⟩ v k hk⟩

/-! What a reader answers. -/
structure RS where
  l : List UInt8
  f : Bool
def RS.gone : RS := ⟨[], true⟩
def RS.Ok (s : RS) : Prop := s.f = true → s.l = []
theorem gone_ok : RS.gone.Ok := fun _ => rfl
def atomB (c : UInt8) : Bool := decide (32 < c.toNat) && (decide (c.toNat ≤ 126) && !([40, 41, 123, 37, 42, 34, 92, 93] : List UInt8).contains c)
def digB (c : UInt8) : Bool := decide (48 ≤ c.toNat) && decide (c.toNat ≤ 57)
def upB (c : UInt8) : UInt8 := if 97 ≤ c.toNat ∧ c.toNat ≤ 122 then UInt8.ofNat (c.toNat - 32) else c
theorem upB_toNat (c : UInt8) : (upB c).toNat = if 97 ≤ c.toNat ∧ c.toNat ≤ 122 then c.toNat - 32 else c.toNat := by
  unfold upB; split
  · rw [UInt8.toNat_ofNat']; have := c.toNat_lt; omega
  · rfl
def wordB (s : RS) (w : List UInt8) : Bool := !s.f && (decide (w.length ≤ s.l.length) && ((s.l.take w.length).map upB == w.map upB))
def wordS (s : RS) (w : List UInt8) : RS := if wordB s w then ⟨s.l.drop w.length, false⟩ else s
def mustS (s : RS) (w : List UInt8) : RS := if wordB s w then ⟨s.l.drop w.length, false⟩ else .gone
def skipS (p : UInt8 → Bool) (s : RS) : RS := ⟨s.l.dropWhile p, s.f⟩
def atomV (s : RS) : List UInt8 := s.l.takeWhile atomB
def atomS (s : RS) : RS := if s.l.takeWhile atomB = [] then .gone else ⟨s.l.dropWhile atomB, s.f⟩
def numO (s : RS) : Option Nat := numR (s.l.takeWhile digB) 4294967295
def numN (s : RS) : Nat := (numO s).getD 0
def numS (s : RS) : RS := if (numO s).isSome then ⟨s.l.dropWhile digB, s.f⟩ else .gone
/-- Ahead of a literal's bytes: what is left, its number. -/
def litH (s : RS) : RS := mustS (numS (mustS s [123])) [125, 13, 10]
def litN (s : RS) : Nat := numN (mustS s [123])
def litB (s : RS) : Bool := !(litH s).f && (decide (litN s ≤ 65536) && decide (litN s ≤ (litH s).l.length))
def litV (s : RS) : List UInt8 := if litB s then (litH s).l.take (litN s) else []
def litS (s : RS) : RS := if litB s then ⟨(litH s).l.drop (litN s), false⟩ else .gone
/-- Behind the first sign of a quoted text: its bytes, what stands behind it. -/
def qd : List UInt8 → Option (List UInt8 × List UInt8)
  | [] => none
  | c :: r => if c = 34 then some ([], r) else if c = 13 ∨ c = 10 then none else if c = 92 then
      match r with
      | [] => none
      | d :: r' => if d = 34 ∨ d = 92 then (qd r').map fun x => (d :: x.1, x.2) else none
    else (qd r).map fun x => (c :: x.1, x.2)
def strV (s : RS) : List UInt8 := if s.l.head? = some 34 then ((qd s.l.tail).map (·.1)).getD [] else if s.l.head? = some 123 then litV s else atomV s
def strS (s : RS) : RS := if s.l.head? = some 34 then (match qd s.l.tail with | some x => ⟨x.2, s.f⟩ | none => .gone) else if s.l.head? = some 123 then litS s else atomS s
def nextB (s : RS) (c : UInt8) : Bool := s.l.head? == some c

theorem RS.Ok.skip {s : RS} (h : s.Ok) (p : UInt8 → Bool) : (skipS p s).Ok := fun hf => by
  have := h hf; unfold skipS; dsimp only; rw [this]; rfl
theorem RS.Ok.must {s : RS} (h : s.Ok) (w : List UInt8) : (mustS s w).Ok := by
  unfold mustS; split
  · intro hf; cases hf
  · exact gone_ok
theorem RS.Ok.word {s : RS} (h : s.Ok) (w : List UInt8) : (wordS s w).Ok := by
  unfold wordS; split
  · intro hf; cases hf
  · exact h
theorem RS.Ok.atom {s : RS} (h : s.Ok) : (atomS s).Ok := by
  unfold atomS; split
  · exact gone_ok
  · exact h.skip atomB
theorem RS.Ok.num {s : RS} (h : s.Ok) : (numS s).Ok := by
  unfold numS; split
  · exact h.skip digB
  · exact gone_ok
theorem RS.Ok.lit {s : RS} (h : s.Ok) : (litS s).Ok := by
  unfold litS; split
  · intro hf; cases hf
  · exact gone_ok
theorem RS.Ok.str {s : RS} (h : s.Ok) : (strS s).Ok := by
  unfold strS
  split
  · rename_i hh
    have hf : s.f = false := by
      cases hf : s.f with
      | false => rfl
      | true => rw [h hf] at hh; cases hh
    split
    · intro hq; dsimp only at hq; rw [hf] at hq; cases hq
    · exact gone_ok
  · split
    · exact h.lit
    · exact h.atom
theorem drop_le {α : Type} (p : α → Bool) (l : List α) : (l.dropWhile p).length ≤ l.length := (List.dropWhile_sublist p).length_le
theorem must_le (s : RS) (w : List UInt8) : (mustS s w).l.length ≤ s.l.length := by
  unfold mustS; split
  · simp
  · exact Nat.zero_le _
theorem word_le (s : RS) (w : List UInt8) : (wordS s w).l.length ≤ s.l.length := by
  unfold wordS; split
  · simp
  · exact Nat.le_refl _
theorem num_le (s : RS) : (numS s).l.length ≤ s.l.length := by
  unfold numS; split
  · exact drop_le _ _
  · exact Nat.zero_le _
theorem atom_le (s : RS) : (atomS s).l.length ≤ s.l.length := by
  unfold atomS; split
  · exact Nat.zero_le _
  · exact drop_le _ _
theorem litH_le (s : RS) : (litH s).l.length ≤ s.l.length := Nat.le_trans (must_le _ _) (Nat.le_trans (num_le _) (must_le _ _))
theorem lit_le (s : RS) : (litS s).l.length ≤ s.l.length := by
  unfold litS; split
  · have := litH_le s; simp; omega
  · exact Nat.zero_le _
theorem qd_le : ∀ (n : Nat) (l : List UInt8), l.length ≤ n → ∀ x, qd l = some x → x.2.length ≤ l.length ∧ x.1.length ≤ l.length := by
  intro n
  induction n with
  | zero => intro l hl x h; obtain rfl : l = [] := List.length_eq_zero_iff.1 (by omega); cases h
  | succ n ih =>
    intro l hl x h
    match l, h with
    | c :: r, h =>
      rw [List.length_cons] at hl ⊢
      unfold qd at h
      split at h
      · cases h; simp
      · split at h
        · cases h
        · split at h
          · match r, h with
            | [], h => cases h
            | d :: r', h =>
              dsimp only at h
              split at h
              · obtain ⟨y, hy, rfl⟩ := Option.map_eq_some_iff.1 h
                rw [List.length_cons] at hl
                have := ih r' (by omega) y hy
                dsimp only; simp; omega
              · cases h
          · obtain ⟨y, hy, rfl⟩ := Option.map_eq_some_iff.1 h
            have := ih r (by omega) y hy
            dsimp only; simp; omega
theorem str_le (s : RS) : (strS s).l.length ≤ s.l.length := by
  unfold strS
  split
  · split
    · rename_i x hx
      have := (qd_le _ _ (Nat.le_refl _) x hx).1
      have h2 : s.l.tail.length ≤ s.l.length := by simp
      dsimp only; omega
    · exact Nat.zero_le _
  · split
    · exact lit_le s
    · exact atom_le s
end Go.Proofs.YtdpmnmiimfhlhaaGreatDoor
set_option linter.unusedVariables false
set_option linter.unusedSimpArgs false
namespace Go.Proofs.YtdpmnmiimfhlhaaGreatDoor
open Go Go.RowKit

abbrev pt (g : Nat) : Value := .pointer (some ⟨g, 0, none⟩)
/-- A reader of the program. -/
def PR (W : World) (g : Nat) (s : RS) : Prop := Cells W g 118 #[.string (txt s.l), .bool s.f]
theorem PR.facts {W : World} {g : Nat} {s : RS} (h : PR W g s) : W.cell? ⟨g, 0, none⟩ = some (.string (txt s.l)) ∧ W.cell? ⟨g, 1, none⟩ = some (.bool s.f) ∧ g < W.heap.size ∧ W.frozen? ⟨g, 0, none⟩ = false ∧ W.frozen? ⟨g, 1, none⟩ = false :=
  ⟨Cells.cell h rfl, Cells.cell h rfl, Cells.lt h, Cells.frozen h 0, Cells.frozen h 1⟩
theorem PR.tk {W W' : World} {g h : Nat} {s : RS} (hp : PR W g s) (ht : Tk h W W') (hne : g ≠ h) : PR W' g s := Cells.later hp (ht.blk g (Cells.lt hp) hne)
theorem PR.set0 {W : World} {g : Nat} {s : RS} (h : PR W g s) (l : List UInt8) : PR (W.setCell ⟨g, 0, none⟩ (.string (txt l))) g ⟨l, s.f⟩ := Cells.set h 0 _
theorem PR.set1 {W : World} {g : Nat} {s : RS} (h : PR W g s) (f : Bool) : PR (W.setCell ⟨g, 1, none⟩ (.bool f)) g ⟨s.l, f⟩ := Cells.set h 1 _
/-- What a call does: an answer, what the reader then is, and nothing else that was there turns. -/
def Does (W : World) (g : Nat) (v : Value) (s' : RS) (e : Ending) (w' : World) : Prop := e = .returned v ∧ PR w' g s' ∧ Tk g W w'
variable {W : World} {g : Nat} {s : RS}

set_option maxRecDepth 20000 in
theorem tkFail_c (h : PR W g s) : Calls Tryz.prog 75 #[pt g] W (Does W g (.tuple #[]) .gone) := by
  obtain ⟨c0, c1, hb, f0, f1⟩ := h.facts
  have H := Lib.hid h
  clear h
  go_enter Tryz.func75, Tryz.ntmps75
  go_wp2_with fail
  go_end0
  refine ⟨rfl, ?_, ?_⟩
  · exact (H.out.set0 []).set1 true
  · exact (Tk.set W 0 _).trans (Tk.set _ 1 _)
theorem tkmust_c (h : PR W g s) (b : Bool) : Calls Tryz.prog 161 #[pt g, .bool b] W (Does W g (.tuple #[]) (if b then s else .gone)) := by
  have C := Lib.hid (tkFail_c h)
  have H := Lib.hid h
  clear h
  cases b with
  | true =>
    go_enter Tryz.func161, Tryz.ntmps161
    go_wp2_with fail
    go_end0
    exact ⟨rfl, H.out, Tk.refl _ _⟩
  | false =>
    go_enter Tryz.func161, Tryz.ntmps161
    go_wp2_with fail
    refine C.out.mono ?_
    rintro e w1 ⟨rfl, h1, h2⟩
    have H1 := Lib.hid h1
    have H2 := Lib.hid h2
    clear h1 h2
    go_wp2_with fail
    go_end0
    exact ⟨rfl, H1.out, H2.out⟩
theorem tkLeft_c (h : PR W g s) : Calls Tryz.prog 31 #[pt g] W fun e w' => e = .returned (.int .i64 s.l.length) ∧ w' = W := by
  obtain ⟨c0, c1, hb, f0, f1⟩ := h.facts
  have e0 := txt_size s.l
  obtain ⟨B, hB⟩ : ∃ B, txt s.l = B := ⟨_, rfl⟩
  rw [hB] at c0 e0
  clear h hB
  go_enter Tryz.func31, Tryz.ntmps31
  go_wp2_with fail
  go_ret
  exact ⟨by simp [e0], rfl⟩
theorem tkOk_c (h : PR W g s) : Calls Tryz.prog 30 #[pt g] W fun e w' => e = .returned (.bool (!s.f)) ∧ w' = W := by
  obtain ⟨c0, c1, hb, f0, f1⟩ := h.facts
  clear h
  obtain ⟨f, hf⟩ : ∃ f, s.f = f := ⟨_, rfl⟩
  rw [hf] at c1 ⊢
  cases f
  all_goals
    go_enter Tryz.func30, Tryz.ntmps30
    go_wp2_with fail
    go_ret
    exact ⟨rfl, rfl⟩
theorem tkEnd_c (h : PR W g s) : Calls Tryz.prog 34 #[pt g] W fun e w' => e = .returned (.bool (!s.f && s.l.isEmpty)) ∧ w' = W := by
  obtain ⟨c0, c1, hb, f0, f1⟩ := h.facts
  clear h
  obtain ⟨f, hf⟩ : ∃ f, s.f = f := ⟨_, rfl⟩
  have e0 := isEmpty_txt' s.l
  obtain ⟨B, hB⟩ : ∃ B, txt s.l = B := ⟨_, rfl⟩
  obtain ⟨y, hy⟩ : ∃ y, s.l.isEmpty = y := ⟨_, rfl⟩
  rw [hf] at c1 ⊢
  rw [hB] at c0 e0
  rw [hy] at e0 ⊢
  clear hB hy
  cases f <;> cases y
  all_goals
    go_enter Tryz.func34, Tryz.ntmps34
    go_wp2_with fail
    go_ret
    exact ⟨by simp [e0], rfl⟩
theorem tkNext_c (h : PR W g s) (n : Nat) (c : UInt8) (hn : n = c.toNat) : Calls Tryz.prog 111 #[pt g, .int .u8 n] W fun e w' => e = .returned (.bool (nextB s c)) ∧ w' = W := by
  obtain ⟨c0, c1, hb, f0, f1⟩ := h.facts
  clear h
  unfold nextB
  match hl : s.l, c0 with
  | [], c0 =>
    have e0 : (txt []).toList.isEmpty = true := isEmpty_txt' []
    obtain ⟨B, hB⟩ : ∃ B, txt [] = B := ⟨_, rfl⟩
    rw [hB] at c0 e0
    go_enter Tryz.func111, Tryz.ntmps111
    go_wp2_with fail
    go_ret
    exact ⟨by simp [e0], rfl⟩
  | x :: r, c0 =>
    have e0 : (txt (x :: r)).toList.isEmpty = false := isEmpty_txt' (x :: r)
    have e1 : (txt (x :: r)).size = r.length + 1 := txt_size (x :: r)
    have e2 : (txt (x :: r))[0]'(by omega) = x := at_txt (l := x :: r) (k := 0) (by simp)
    obtain ⟨B, hB⟩ : ∃ B, txt (x :: r) = B := ⟨_, rfl⟩
    simp only [hB] at c0 e0 e1 e2
    have hsz : 0 < B.size := by omega
    have hq1 : (0 : Int) < B.size := by omega
    have hc1 : B[0].toNat < 256 := B[0].toNat_lt
    by_cases hx : x = c
    · subst hx
      subst hn
      have u : ((x.toNat : Int) == (x.toNat : Int)) = true := by rw [beq_iff_eq]
      go_enter Tryz.func111, Tryz.ntmps111
      go_wp2_with fail
      go_ret
      exact ⟨by simp, rfl⟩
    · have u : ((x.toNat : Int) == (n : Int)) = false := by
        rw [beq_eq_false_iff_ne, hn]; intro h; exact hx (UInt8.toNat_inj.1 (by omega))
      have u2 : ((x :: r).head? == some c) = false := by simp [hx]
      rw [u2]
      clear hx hn
      go_enter Tryz.func111, Tryz.ntmps111
      go_wp2_with fail
      go_ret
      exact ⟨by simp [u], rfl⟩
theorem tkRead_c (l : List UInt8) (W : World) : Calls Tryz.prog 24 #[.string (txt l)] W (fun e w' => e = .returned (pt W.heap.size) ∧ PR w' W.heap.size ⟨l, false⟩ ∧ Below W.heap.size W w') := by
  obtain ⟨B, hB⟩ : ∃ B, txt l = B := ⟨_, rfl⟩
  have HB := Lib.hid hB
  rw [hB]
  clear hB
  go_enter Tryz.func24, Tryz.ntmps24
  go_wp2_with fail
  go_ret
  refine ⟨rfl, ?_, ?_⟩
  · unfold PR Cells
    rw [HB.out]
    exact heap_alloc_new W _
  · exact (Below.refl _ W).alloc (Nat.le_refl _) _
end Go.Proofs.YtdpmnmiimfhlhaaGreatDoor
set_option linter.unusedVariables false
set_option linter.unusedSimpArgs false
namespace Go.Proofs.YtdpmnmiimfhlhaaGreatDoor
open Go Go.RowKit

/-- A row of bytes that a conversion laid, as it now is. -/
def BytesAt (W : World) (b : Nat) (l : List UInt8) : Prop := ∃ cur : Array Value, W.heap[b]? = some (.cells cur 5 (cur.size, cur.size + 1)) ∧ ∀ (j : Nat) (c : UInt8), l[j]? = some c → cur[j]? = some (Value.int .u8 (c.toNat : Int))
theorem BytesAt.lt {W : World} {b : Nat} {l : List UInt8} (h : BytesAt W b l) : b < W.heap.size := by
  obtain ⟨cur, hc, _⟩ := h
  exact (Array.getElem?_eq_some_iff.1 hc).1
theorem BytesAt.cell {W : World} {b : Nat} {l : List UInt8} (h : BytesAt W b l) {j : Nat} {c : UInt8} (hj : l[j]? = some c) : W.cell? ⟨b, j, none⟩ = some (.int .u8 (c.toNat : Int)) ∧ W.frozen? ⟨b, j, none⟩ = false := by
  obtain ⟨cur, hc, hl⟩ := h
  have h1 := hl j c hj
  have h2 : j < cur.size := (Array.getElem?_eq_some_iff.1 h1).1
  refine ⟨by simp [World.cell?, hc, h1], ?_⟩
  simp [World.frozen?, hc]
  omega
theorem BytesAt.set {W : World} {b : Nat} {l : List UInt8} (h : BytesAt W b l) {j : Nat} (hj : j < l.length) (c : UInt8) : BytesAt (W.setCell ⟨b, j, none⟩ (.int .u8 (c.toNat : Int))) b (l.set j c) := by
  obtain ⟨cur, hc, hl⟩ := h
  obtain ⟨hlt, hk⟩ := Array.getElem?_eq_some_iff.1 hc
  refine ⟨cur.setIfInBounds j (.int .u8 (c.toNat : Int)), ?_, fun i d hi => ?_⟩
  · show (W.heap.modify b _)[b]? = _
    rw [Array.getElem?_eq_getElem (by rw [Array.size_modify]; exact hlt), Array.getElem_modify_self, hk]
    simp
  · rw [List.getElem?_set] at hi
    have h2 : j < cur.size := (Array.getElem?_eq_some_iff.1 (hl j l[j] (List.getElem?_eq_getElem hj))).1
    rw [Array.getElem?_setIfInBounds]
    split at hi
    · rename_i hji; subst hji
      obtain rfl : c = d := by simpa [hj] using hi
      simp [h2]
    · rename_i hji
      rw [if_neg hji]
      exact hl i d hi
theorem BytesAt.new (W : World) (l : List UInt8) : BytesAt (Lib.bytesWorld W 5 (txt l)) W.heap.size l := by
  refine ⟨_, Lib.bytesWorld_at_new W 5 (txt l), fun j c hj => ?_⟩
  obtain ⟨hj1, hj2⟩ := List.getElem?_eq_some_iff.1 hj
  have hs : j < (txt l).size := by rw [txt_size]; exact hj1
  have := Lib.bytesWorld_cell W 5 (txt l) j hs
  rw [data_txt, List.getD_eq_getElem?_getD, hj] at this
  simpa [World.cell?, Lib.bytesWorld_at_new] using this
theorem BytesAt.back {W : World} {b : Nat} {l : List UInt8} (h : BytesAt W b l) (cap n : Nat) (hn : l.length = n) : (convert 97 9 (.slice (some ⟨b, 0, none⟩) n cap)).run Tryz.prog W = .ok (.string (txt l)) W := by
  subst hn
  exact run_convert_bytes_back (P := Tryz.prog) W 97 9 5 ⟨b, 0, none⟩ cap l Tryz.underlying97 Tryz.underlying5 Tryz.underlying9 (fun j hj => by
    have h2 := (h.cell (List.getElem?_eq_getElem hj)).1
    rw [Addr.add_lit, Nat.zero_add]; exact h2)

theorem conv1 (w : World) (x : Int) (c : UInt8) (hx : x = c.toNat) :
    (convert 97 9 (.slice (some ⟨w.heap.size, 0, none⟩) 1 1)).run Tryz.prog (w.alloc (.cells #[.int .u8 x] 5)) = .ok (.string ⟨#[c]⟩) (w.alloc (.cells #[.int .u8 x] 5)) := by
  have := run_convert_bytes_back (P := Tryz.prog) (w.alloc (.cells #[.int .u8 x] 5)) 97 9 5 ⟨w.heap.size, 0, none⟩ 1 [c] Tryz.underlying97 Tryz.underlying5 Tryz.underlying9 (by
    intro j hj
    obtain rfl : j = 0 := by simpa using hj
    subst hx
    show World.cell? _ ⟨w.heap.size, 0, none⟩ = _
    unfold World.cell?; rw [heap_alloc_new]; rfl)
  exact this
end Go.Proofs.YtdpmnmiimfhlhaaGreatDoor
set_option linter.unusedVariables false
set_option linter.unusedSimpArgs false
namespace Go.Proofs.YtdpmnmiimfhlhaaGreatDoor
open Go Go.RowKit

theorem up_take {l : List UInt8} {k : Nat} (hk : k < l.length) (c : UInt8) (hc : c = upB l[k]) : ((l.take k).map upB ++ l.drop k).set k c = (l.take (k + 1)).map upB ++ l.drop (k + 1) := by
  subst hc
  rw [List.set_append_right _ _ (by simp; omega), List.take_succ_eq_append_getElem hk, List.map_append, List.append_assoc]
  congr 1
  have : k - ((l.take k).map upB).length = 0 := by simp; omega
  rw [this, List.drop_eq_getElem_cons hk]; rfl
theorem up_at {l : List UInt8} {k : Nat} (hk : k < l.length) : ((l.take k).map upB ++ l.drop k)[k]? = some l[k] := by
  have : ((l.take k).map upB).length = k := by simp; omega
  rw [List.getElem?_append_right (by omega), this, Nat.sub_self, List.drop_eq_getElem_cons hk]; rfl
theorem up_same {l : List UInt8} {k : Nat} (hk : k < l.length) (h : upB l[k] = l[k]) : (l.take k).map upB ++ l.drop k = (l.take (k + 1)).map upB ++ l.drop (k + 1) := by
  rw [List.take_succ_eq_append_getElem hk, List.map_append, List.append_assoc, List.drop_eq_getElem_cons hk]
  simp [h]

set_option maxRecDepth 100000 in
set_option maxHeartbeats 1000000 in
theorem tkUpper_c (l : List UInt8) (hl : l.length ≤ 100000) (w : World) : Calls Tryz.prog 129 #[.string (txt l)] w fun e w' => e = .returned (.string (txt (l.map upB))) ∧ Below w.heap.size w w' := by
  have hcv := Lib.run_convert_string_bytes (P := Tryz.prog) w 9 97 5 (txt l) Tryz.underlying9 Tryz.underlying97 Tryz.underlying5
  have hnew := BytesAt.new w l
  have hbel := Joins.below_bytesWorld w.heap.size w 5 (txt l) (Nat.le_refl _)
  have hsz := txt_size l
  obtain ⟨N, hN⟩ : ∃ N, l.length = N := ⟨_, rfl⟩
  obtain ⟨B, hB⟩ : ∃ B, txt l = B := ⟨_, rfl⟩
  obtain ⟨w1, hw1⟩ : ∃ w1, Lib.bytesWorld w 5 B = w1 := ⟨_, rfl⟩
  rw [hB] at hcv hnew hbel hsz ⊢
  rw [hw1] at hcv hnew hbel
  rw [hN] at hsz
  rw [hsz] at hcv
  obtain ⟨cp, hcp⟩ : ∃ cp, grownCap w N 0 5 = cp := ⟨_, rfl⟩
  rw [hcp] at hcv
  have HN := Lib.hid hN
  have H1 := Lib.hid hnew
  have HB := Lib.hid hbel
  clear hnew hbel hw1 hN hB hcp
  go_enter Tryz.func129, Tryz.ntmps129
  go_wp2_with fail
  go_loopw [4, 5, 10] (fun x y i wr => ∃ k : Nat, k ≤ N ∧ i = .int .i64 k ∧ Hid (BytesAt wr w.heap.size ((l.take k).map upB ++ l.drop k)) ∧ Hid (Below w.heap.size w wr)) (fun _ _ i _ => N - (intOf i).toNat)
  case atStart => exact ⟨0, Nat.zero_le _, rfl, H1.out, HB.out⟩
  case round =>
    obtain ⟨k, hk, rfl, HA, HW⟩ := hrel
    by_cases hlt : k < N
    · have hq : (k : Int) < N := by omega
      have hq0 : (0 : Int) ≤ k := by omega
      have hkl : k < l.length := by rw [HN.out]; exact hlt
      obtain ⟨c, hc⟩ : ∃ c, l[k] = c := ⟨_, rfl⟩
      obtain ⟨c0, f0⟩ := HA.out.cell (up_at hkl)
      have hbl := HA.out.lt
      have hle := HW.out.size
      rw [hc] at c0
      have hc1 : c.toNat < 256 := c.toNat_lt
      have HKL := Lib.hid hkl
      have HC := Lib.hid hc
      clear hc
      by_cases h1 : 97 ≤ c.toNat
      · by_cases h2 : c.toNat ≤ 122
        · have q1 : (97 : Int) ≤ c.toNat := by omega
          have q2 : (c.toNat : Int) ≤ 122 := by omega
          have hup : ((upB c).toNat : Int) = (c.toNat : Int) - 97 + 65 := by rw [upB_toNat, if_pos ⟨h1, h2⟩]; omega
          have HS : Hid (BytesAt (wr.setCell ⟨w.heap.size, k, none⟩ (.int .u8 ((c.toNat : Int) - 97 + 65))) w.heap.size ((l.take (k + 1)).map upB ++ l.drop (k + 1))) := by
            have := HA.out.set (j := k) (by simp; have := HKL.out; omega) (upB c)
            rw [hup, up_take HKL.out (upB c) (by rw [HC.out])] at this
            exact this
          have HS2 : Hid (Below w.heap.size w (wr.setCell ⟨w.heap.size, k, none⟩ (.int .u8 ((c.toNat : Int) - 97 + 65)))) := ⟨HW.out.os, HW.out.tape, HW.out.output, by rw [size_setCell]; exact HW.out.size, fun i hi => (Below.heap_setCell wr ⟨w.heap.size, k, none⟩ _ i (by show i ≠ w.heap.size; omega)).trans (HW.out.block i hi)⟩
          clear hup
          go_wp2_with fail
          go_roundw
          case rel => exact ⟨k + 1, by omega, by go_num, HS.out, HS2.out⟩
          case measure => simp [intOf]; omega
        · have q1 : (97 : Int) ≤ c.toNat := by omega
          have q2 : ¬ (c.toNat : Int) ≤ 122 := by omega
          have HS : Hid (BytesAt wr w.heap.size ((l.take (k + 1)).map upB ++ l.drop (k + 1))) := by
            have := HA.out
            rw [up_same HKL.out (by rw [HC.out]; unfold upB; rw [if_neg (by omega)])] at this
            exact this
          go_wp2_with fail
          go_roundw
          case rel => exact ⟨k + 1, by omega, by go_num, HS.out, HW.out⟩
          case measure => simp [intOf]; omega
      · have q1 : ¬ (97 : Int) ≤ c.toNat := by omega
        have HS : Hid (BytesAt wr w.heap.size ((l.take (k + 1)).map upB ++ l.drop (k + 1))) := by
          have := HA.out
          rw [up_same HKL.out (by rw [HC.out]; unfold upB; rw [if_neg (by omega)])] at this
          exact this
        go_wp2_with fail
        go_roundw
        case rel => exact ⟨k + 1, by omega, by go_num, HS.out, HW.out⟩
        case measure => simp [intOf]; omega
    · obtain rfl : k = N := by omega
      have hq : ¬ (k : Int) < k := by omega
      have ha := HA.out
      rw [List.take_of_length_le (by rw [HN.out]; exact Nat.le_refl _), List.drop_of_length_le (by rw [HN.out]; exact Nat.le_refl _), List.append_nil] at ha
      have kc := ha.back cp k (by rw [List.length_map]; exact HN.out)
      clear ha
      go_wp2_with fail
      go_ret
      exact ⟨rfl, HW.out⟩

theorem upper_take {A : ByteArray} {B : ByteArray} {k : Nat} (hk : k < A.size) (hB : B = txt ((A.data.toList.take k).map upB)) : B ++ ⟨#[upB A[k]]⟩ = txt ((A.data.toList.take (k + 1)).map upB) := by
  have hk' : k < A.data.toList.length := by rw [ba_len]; exact hk
  rw [byte_append _ _ hB, List.take_succ_eq_append_getElem hk', List.map_append]
  rfl

set_option maxRecDepth 100000 in
set_option maxHeartbeats 1000000 in
theorem rtUpper_c0 (A : ByteArray) (hA : A.size ≤ 100000) (w : World) : Calls Tryz.prog 61 #[.string A] w fun e w' => e = .returned (.string (txt (A.data.toList.map upB))) ∧ Below w.heap.size w w' := by
  go_enter Tryz.func61, Tryz.ntmps61
  go_wp2_with fail
  go_loopw [3, 4, 5] (fun o i _ wr => ∃ (k : Nat) (B : ByteArray), k ≤ A.size ∧ i = .int .i64 k ∧ o = .string B ∧ B.size ≤ 100000 ∧ Hid (B = txt ((A.data.toList.take k).map upB)) ∧ Below w.heap.size w wr) (fun _ i _ _ => A.size - (intOf i).toNat)
  case atStart => exact ⟨0, _, by omega, rfl, rfl, by show (0 : Nat) ≤ _; omega, rfl, Below.refl _ _⟩
  case round =>
    obtain ⟨k, B, hk, rfl, rfl, hsB, HB, hB⟩ := hrel
    have hle : w.heap.size ≤ wr.heap.size := hB.size
    have HW := Lib.hid hB
    clear hB
    by_cases hlt : k < A.size
    · have hq1 : ((k : Int)) < A.size := by omega
      have hc1 : (A[k].toNat) < 256 := A[k].toNat_lt
      have hbs : B.size ≤ k := by rw [HB.out, txt_size, List.length_map, List.length_take]; omega
      by_cases hup : 97 ≤ A[k].toNat ∧ A[k].toNat ≤ 122
      · have hlo : ((upB A[k]).toNat : Int) = (A[k].toNat : Int) - 32 := by rw [upB_toNat, if_pos hup]; omega
        have u1 : 97 ≤ (A[k].toNat : Int) := by omega
        have u2 : (A[k].toNat : Int) ≤ 122 := by omega
        have kc := conv1 wr ((A[k].toNat : Int) - 32) (upB A[k]) hlo.symm
        clear hlo hup
        go_wp2_with fail
        go_roundw
        case rel => exact ⟨k + 1, _, by omega, by go_num, rfl, by rw [ByteArray.size_append]; show B.size + 1 ≤ 100000; omega, upper_take hlt HB.out, HW.out.alloc hle _⟩
        case measure => simp [intOf]; omega
      · have hlo : ((upB A[k]).toNat : Int) = (A[k].toNat : Int) := by rw [upB_toNat, if_neg hup]
        have kc := conv1 wr (A[k].toNat : Int) (upB A[k]) hlo.symm
        clear hlo
        by_cases hup1 : 97 ≤ A[k].toNat
        · have u1 : 97 ≤ (A[k].toNat : Int) := by omega
          have u2 : 122 < (A[k].toNat : Int) := by omega
          clear hup hup1
          go_wp2_with fail
          go_roundw
          case rel => exact ⟨k + 1, _, by omega, by go_num, rfl, by rw [ByteArray.size_append]; show B.size + 1 ≤ 100000; omega, upper_take hlt HB.out, HW.out.alloc hle _⟩
          case measure => simp [intOf]; omega
        · have u1 : (A[k].toNat : Int) < 97 := by omega
          clear hup hup1
          go_wp2_with fail
          go_roundw
          case rel => exact ⟨k + 1, _, by omega, by go_num, rfl, by rw [ByteArray.size_append]; show B.size + 1 ≤ 100000; omega, upper_take hlt HB.out, HW.out.alloc hle _⟩
          case measure => simp [intOf]; omega
    · obtain rfl : k = A.size := by omega
      go_wp2_with fail
      go_ret
      refine ⟨?_, HW.out⟩
      have h1 := HB.out
      rw [List.take_of_length_le (by rw [ba_len]; exact Nat.le_refl _)] at h1
      rw [← h1]; rfl
theorem rtUpper_c (l : List UInt8) (hl : l.length ≤ 100000) (w : World) : Calls Tryz.prog 61 #[.string (txt l)] w fun e w' => e = .returned (.string (txt (l.map upB))) ∧ Below w.heap.size w w' := by
  have := rtUpper_c0 (txt l) (by rw [txt_size]; exact hl) w
  rw [data_txt] at this
  exact this
end Go.Proofs.YtdpmnmiimfhlhaaGreatDoor
set_option linter.unusedVariables false
set_option linter.unusedSimpArgs false
namespace Go.Proofs.YtdpmnmiimfhlhaaGreatDoor
open Go Go.RowKit
variable {W : World} {g : Nat} {s : RS}

theorem toList_txt (l : List UInt8) : (txt l).toList = l := by rw [ByteArray.toList_eq, data_txt]
theorem bne_txt {a b : List UInt8} (h : a ≠ b) : ((txt a).toList == (txt b).toList) = false := by rw [toList_txt, toList_txt, beq_eq_false_iff_ne]; exact h

set_option maxRecDepth 100000 in
set_option maxHeartbeats 1000000 in
theorem tkWord_c (h : PR W g s) (hl : s.l.length ≤ 100000) (x : List UInt8) (hx : x.length ≤ 100000) : Calls Tryz.prog 99 #[pt g, .string (txt x)] W (Does W g (.bool (wordB s x)) (wordS s x)) := by
  obtain ⟨c0, c1, hb, f0, f1⟩ := h.facts
  have H := Lib.hid h
  obtain ⟨l, f⟩ := s
  dsimp only at c0 c1 hl
  cases f with
  | true =>
    have hw : wordB ⟨l, true⟩ x = false := by simp [wordB]
    unfold wordS
    rw [hw]
    obtain ⟨B, hB⟩ : ∃ B, txt l = B := ⟨_, rfl⟩
    obtain ⟨X, hX⟩ : ∃ X, txt x = X := ⟨_, rfl⟩
    rw [hB] at c0
    rw [hX]
    clear h hw hB hX
    go_enter Tryz.func99, Tryz.ntmps99
    go_wp2_with fail
    go_ret
    exact ⟨rfl, H.out, Tk.refl _ _⟩
  | false =>
    have e1 := txt_size l
    have e2 := txt_size x
    obtain ⟨N, hN⟩ : ∃ N, l.length = N := ⟨_, rfl⟩
    obtain ⟨M, hM⟩ : ∃ M, x.length = M := ⟨_, rfl⟩
    by_cases hlt : N < M
    · have hw : wordB ⟨l, false⟩ x = false := by unfold wordB; dsimp only; rw [hN, hM]; simp; omega
      unfold wordS
      rw [hw]
      obtain ⟨B, hB⟩ : ∃ B, txt l = B := ⟨_, rfl⟩
      obtain ⟨X, hX⟩ : ∃ X, txt x = X := ⟨_, rfl⟩
      rw [hB] at c0 e1
      rw [hX] at e2 ⊢
      rw [hN] at e1
      rw [hM] at e2
      have q1 : (N : Int) < M := by omega
      clear h hw hB hX
      go_enter Tryz.func99, Tryz.ntmps99
      go_wp2_with fail
      go_ret
      exact ⟨rfl, H.out, Tk.refl _ _⟩
    · have hM9 : M ≤ 100000 := by omega
      have hN9 : N ≤ 100000 := by omega
      have q1 : ¬ (N : Int) < M := by omega
      have q2 : (M : Int) ≤ N := by omega
      have hex : (txt l).extract 0 M = txt (l.take M) := ext_take l
      have hed : (txt l).extract M N = txt (l.drop M) := ext_drop l hN.symm
      have C1 := fun w => tkUpper_c (l.take M) (by rw [List.length_take]; omega) w
      have C2 := fun w => tkUpper_c x hx w
      rw [← hex] at C1
      have HED := Lib.hid hed
      obtain ⟨B, hB⟩ : ∃ B, txt l = B := ⟨_, rfl⟩
      obtain ⟨X, hX⟩ : ∃ X, txt x = X := ⟨_, rfl⟩
      rw [hB] at c0 e1 C1 HED
      rw [hX] at e2 C2 ⊢
      rw [hN] at e1
      rw [hM] at e2
      have C1 := Lib.hid C1
      have C2 := Lib.hid C2
      have HBT := Lib.hid hB
      by_cases hup : (l.take M).map upB = x.map upB
      · have hw : wordB ⟨l, false⟩ x = true := by unfold wordB; dsimp only; rw [hN, hM, hup]; simp; omega
        have hS : wordS ⟨l, false⟩ x = ⟨l.drop M, false⟩ := by unfold wordS; rw [hw, hM]; rfl
        rw [hw, hS]
        rw [hup] at C1
        obtain ⟨Y, hY⟩ : ∃ Y, txt (x.map upB) = Y := ⟨_, rfl⟩
        rw [hY] at C1 C2
        have u0 : (Y.toList != Y.toList) = false := by simp
        clear h hw hB hX hN hM hS hex hed hup hY
        go_enter Tryz.func99, Tryz.ntmps99
        go_wp2_with fail
        refine (C1.out _).mono ?_
        rintro e w1 ⟨rfl, hb1⟩
        have HB1 := Lib.hid hb1
        clear hb1
        go_wp2_with fail
        refine (C2.out _).mono ?_
        rintro e w2 ⟨rfl, hb2⟩
        have hbb := HB1.out.trans (hb2.mono HB1.out.size)
        have hp2 := H.out.tk (Tk.of_below (g := g + 1) hbb) (by omega)
        obtain ⟨d0, d1, dd, g0, g1⟩ := hp2.facts
        rw [show txt (RS.mk l false).l = B from HBT.out] at d0
        have H2 := Lib.hid hp2
        have HBB := Lib.hid hbb
        clear hb2 hp2 hbb c0 c1 f0 f1
        go_wp2_with fail
        go_ret
        refine ⟨rfl, ?_, (Tk.of_below HBB.out).trans (Tk.set _ _ _)⟩
        have h3 := H2.out.set0 (l.drop M)
        rw [← HED.out] at h3
        exact h3
      · have hne : ((l.take M).map upB == x.map upB) = false := by rw [beq_eq_false_iff_ne]; exact hup
        have hw : wordB ⟨l, false⟩ x = false := by unfold wordB; dsimp only; rw [hM, hne]; simp
        have hS : wordS ⟨l, false⟩ x = ⟨l, false⟩ := by unfold wordS; rw [hw]; rfl
        rw [hw, hS]
        have u0 := bne_txt hup
        obtain ⟨Y, hY⟩ : ∃ Y, txt (x.map upB) = Y := ⟨_, rfl⟩
        obtain ⟨Z, hZ⟩ : ∃ Z, txt ((l.take M).map upB) = Z := ⟨_, rfl⟩
        rw [hY] at C2 u0
        rw [hZ] at C1 u0
        clear h hw hB hX hN hM hS hex hed hup hY hZ hne
        go_enter Tryz.func99, Tryz.ntmps99
        go_wp2_with fail
        refine (C1.out _).mono ?_
        rintro e w1 ⟨rfl, hb1⟩
        have HB1 := Lib.hid hb1
        clear hb1
        go_wp2_with fail
        refine (C2.out _).mono ?_
        rintro e w2 ⟨rfl, hb2⟩
        have hbb := HB1.out.trans (hb2.mono HB1.out.size)
        have HBB := Lib.hid hbb
        clear hb2 hbb
        go_wp2_with fail
        go_ret
        exact ⟨rfl, H.out.tk (Tk.of_below (g := g + 1) HBB.out) (by omega), Tk.of_below HBB.out⟩
theorem tkBlank_c (h : PR W g s) (hl : s.l.length ≤ 100000) : Calls Tryz.prog 98 #[pt g] W (Does W g (.tuple #[]) (mustS s [32])) := by
  have C := Lib.hid (tkWord_c h hl [32] (by decide))
  have e0 : txt [32] = ⟨#[32]⟩ := rfl
  rw [e0] at C
  have HS : Hid (mustS s [32] = if wordB s [32] then wordS s [32] else .gone) := by
    show _ = _
    unfold mustS wordS
    split <;> rfl
  obtain ⟨b, hb⟩ : ∃ b, wordB s [32] = b := ⟨_, rfl⟩
  obtain ⟨t, ht⟩ : ∃ t, wordS s [32] = t := ⟨_, rfl⟩
  rw [hb, ht] at C HS
  rw [HS.out]
  clear h HS hb ht
  cases b
  · go_enter Tryz.func98, Tryz.ntmps98
    go_wp2_with fail
    refine C.out.mono ?_
    rintro e w1 ⟨rfl, h1, h2⟩
    have C2 := Lib.hid (tkmust_c h1 false)
    have H2 := Lib.hid h2
    clear h1 h2
    go_wp2_with fail
    refine C2.out.mono ?_
    rintro e w2 ⟨rfl, h3, h4⟩
    have H3 := Lib.hid h3
    have H4 := Lib.hid h4
    clear h3 h4
    go_wp2_with fail
    go_end0
    exact ⟨rfl, H3.out, H2.out.trans H4.out⟩

  · go_enter Tryz.func98, Tryz.ntmps98
    go_wp2_with fail
    refine C.out.mono ?_
    rintro e w1 ⟨rfl, h1, h2⟩
    have C2 := Lib.hid (tkmust_c h1 true)
    have H2 := Lib.hid h2
    clear h1 h2
    go_wp2_with fail
    refine C2.out.mono ?_
    rintro e w2 ⟨rfl, h3, h4⟩
    have H3 := Lib.hid h3
    have H4 := Lib.hid h4
    clear h3 h4
    go_wp2_with fail
    go_end0
    exact ⟨rfl, H3.out, H2.out.trans H4.out⟩

/-! All bytes that are so. -/
theorem tw_step {p : UInt8 → Bool} : ∀ {l : List UInt8} {k : Nat}, k ≤ (l.takeWhile p).length → (hk : k < l.length) → (p l[k] = true → k + 1 ≤ (l.takeWhile p).length) ∧ (p l[k] = false → k = (l.takeWhile p).length)
  | c :: r, 0, _, _ => by
    rw [List.takeWhile_cons]
    refine ⟨fun h => ?_, fun h => ?_⟩
    · have h : p c = true := h
      rw [if_pos h]; simp
    · have h : p c = false := h
      rw [h]; rfl
  | c :: r, k + 1, h, hk => by
    rw [List.takeWhile_cons] at h ⊢
    by_cases hc : p c = true
    · rw [if_pos hc] at h ⊢
      have := tw_step (p := p) (l := r) (k := k) (by simpa using h) (by simpa using hk)
      simp only [List.getElem_cons_succ, List.length_cons]
      exact ⟨fun hp => by have := this.1 hp; omega, fun hp => by have := this.2 hp; omega⟩
    · rw [if_neg hc] at h; simp at h
theorem tw_end {p : UInt8 → Bool} {l : List UInt8} {k : Nat} (h : k ≤ (l.takeWhile p).length) (hk : ¬ k < l.length) : k = (l.takeWhile p).length := by
  have := (List.takeWhile_sublist (l := l) p).length_le; omega
theorem tw_take {p : UInt8 → Bool} (l : List UInt8) : l.take (l.takeWhile p).length = l.takeWhile p ∧ l.drop (l.takeWhile p).length = l.dropWhile p := by
  induction l with
  | nil => exact ⟨rfl, rfl⟩
  | cons c r ih =>
    rw [List.takeWhile_cons, List.dropWhile_cons]
    split
    · simp [ih.1, ih.2]
    · exact ⟨rfl, rfl⟩
theorem tw_le {p : UInt8 → Bool} (l : List UInt8) : (l.takeWhile p).length ≤ l.length := (List.takeWhile_sublist p).length_le
end Go.Proofs.YtdpmnmiimfhlhaaGreatDoor
set_option linter.unusedVariables false
set_option linter.unusedSimpArgs false
namespace Go.Proofs.YtdpmnmiimfhlhaaGreatDoor
open Go Go.RowKit
variable {W : World} {g : Nat} {s : RS}

theorem isdig (x : UInt8) (n : Nat) (hx : x.toNat = n) : digB x = (decide (48 ≤ n) && decide (n ≤ 57)) := by subst hx; rfl
set_option maxRecDepth 20000 in
theorem num1_c (n : Nat) (x : UInt8) (hx : x.toNat = n) (w : World) : Calls Tryz.prog 181 #[.int .u8 n] w fun e w' => e = .returned (.bool (digB x)) ∧ w' = w := by
  rw [isdig x n hx]
  have hn : n < 256 := by rw [← hx]; exact x.toNat_lt
  clear hx
  by_cases h1 : 48 ≤ n
  · have q1 : (48 : Int) ≤ n := by omega
    by_cases h2 : n ≤ 57
    · have q2 : (n : Int) ≤ 57 := by omega
      have e : (decide (48 ≤ n) && decide (n ≤ 57)) = true := by simp [h1, h2]
      rw [e]; clear e h1 h2
      go_enter Tryz.func181, Tryz.ntmps181
      go_wp2_with fail
      go_ret
      exact ⟨rfl, rfl⟩
    · have q2 : ¬ (n : Int) ≤ 57 := by omega
      have e : (decide (48 ≤ n) && decide (n ≤ 57)) = false := by simp [h1, h2]
      rw [e]; clear e h1 h2
      go_enter Tryz.func181, Tryz.ntmps181
      go_wp2_with fail
      go_ret
      exact ⟨rfl, rfl⟩
  · have q1 : ¬ (48 : Int) ≤ n := by omega
    have e : (decide (48 ≤ n) && decide (n ≤ 57)) = false := by simp [h1]
    rw [e]; clear e h1
    go_enter Tryz.func181, Tryz.ntmps181
    go_wp2_with fail
    go_ret
    exact ⟨rfl, rfl⟩

def offL : List UInt8 := [40, 41, 123, 37, 42, 34, 92, 93]
theorem off_idx : ∀ n < 256, decide (Lib.indexByte offL (UInt8.ofNat n) < 0) = !offL.contains (UInt8.ofNat n) := by decide +kernel
theorem off_bd : ∀ n < 256, -1 ≤ Lib.indexByte offL (UInt8.ofNat n) ∧ Lib.indexByte offL (UInt8.ofNat n) ≤ 8 := by decide +kernel
set_option maxRecDepth 20000 in
theorem atom1_c (n : Nat) (x : UInt8) (hx : x.toNat = n) (w : World) : Calls Tryz.prog 173 #[.int .u8 n] w fun e w' => e = .returned (.bool (atomB x)) ∧ w' = w := by
  have hn : n < 256 := by rw [← hx]; exact x.toNat_lt
  have hxn : x = UInt8.ofNat n := by rw [← hx]; exact UInt8.toNat_inj.1 (by rw [UInt8.toNat_ofNat']; have := x.toNat_lt; omega)
  have hb := off_idx n hn
  have hbd := off_bd n hn
  have hC : Calls Tryz.prog 79 #[.string ⟨#[40, 41, 123, 37, 42, 34, 92, 93]⟩, .int .u8 n] w fun e w' => e = .returned (.int .i64 (Lib.indexByte offL (UInt8.ofNat n))) ∧ w' = w := by
    have := Tryz.strings_IndexByte ⟨#[40, 41, 123, 37, 42, 34, 92, 93]⟩ n w
    exact this
  have hA : atomB x = (decide (32 < n) && (decide (n ≤ 126) && !offL.contains (UInt8.ofNat n))) := by
    unfold atomB; rw [hx, hxn]; rfl
  rw [hA, ← hb]
  obtain ⟨i, hi⟩ : ∃ i, Lib.indexByte offL (UInt8.ofNat n) = i := ⟨_, rfl⟩
  rw [hi] at hC hbd ⊢
  have HC := Lib.hid hC
  clear hC hA hb hi hx hxn
  by_cases h1 : 32 < n
  · have q1 : (32 : Int) < n := by omega
    by_cases h2 : n ≤ 126
    · have q2 : (n : Int) ≤ 126 := by omega
      by_cases h3 : i < 0
      all_goals
        have e : (decide (32 < n) && (decide (n ≤ 126) && decide (i < 0))) = decide (i < 0) := by simp [h1, h2]
        rw [e]; clear e h1 h2
        go_enter Tryz.func173, Tryz.ntmps173
        go_wp2_with fail
        refine HC.out.mono ?_
        rintro e w' ⟨rfl, rfl⟩
        go_wp2_with fail
        go_ret
        exact ⟨by simp [h3], rfl⟩
    · have q2 : ¬ (n : Int) ≤ 126 := by omega
      have e : (decide (32 < n) && (decide (n ≤ 126) && decide (i < 0))) = false := by simp [h2]
      rw [e]; clear e h1 h2
      go_enter Tryz.func173, Tryz.ntmps173
      go_wp2_with fail
      go_ret
      exact ⟨rfl, rfl⟩
  · have q1 : ¬ (32 : Int) < n := by omega
    have e : (decide (32 < n) && (decide (n ≤ 126) && decide (i < 0))) = false := by simp [h1]
    rw [e]; clear e h1
    go_enter Tryz.func173, Tryz.ntmps173
    go_wp2_with fail
    go_ret
    exact ⟨rfl, rfl⟩
set_option maxRecDepth 100000 in
set_option maxHeartbeats 1000000 in
theorem tkWhileN_c  (p : UInt8 → Bool) (hF : ∀ (n : Nat) (x : UInt8), x.toNat = n → Calls Tryz.prog 181 #[.int .u8 n] W fun e w' => e = .returned (.bool (p x)) ∧ w' = W) (h : PR W g s) (hok : s.Ok) (hl : s.l.length ≤ 100000) :
    Calls Tryz.prog 77 #[pt g, .func (.func 181) #[] #[]] W (Does W g (.string (txt (s.l.takeWhile p))) (skipS p s)) := by
  obtain ⟨c0, c1, hb, f0, f1⟩ := h.facts
  have H := Lib.hid h
  have HF := Lib.hid hF
  have HOK := Lib.hid hok
  obtain ⟨l, f⟩ := s
  dsimp only at c0 c1 hl
  have e1 := txt_size l
  obtain ⟨N, hN⟩ : ∃ N, l.length = N := ⟨_, rfl⟩
  have hex : ∀ k, (txt l).extract 0 k = txt (l.take k) := fun k => ext_take l
  have hed : ∀ k, (txt l).extract k N = txt (l.drop k) := fun k => ext_drop l hN.symm
  obtain ⟨B, hB⟩ : ∃ B, txt l = B := ⟨_, rfl⟩
  rw [hB] at c0 e1
  simp only [hB] at hex hed
  have hat : ∀ k (hk : k < B.size), l[k]? = some B[k] := fun k hk => by
    subst hB
    rw [at_txt (by rw [txt_size] at hk; exact hk)]; exact List.getElem?_eq_getElem _
  rw [hN] at e1
  have HAT := Lib.hid hat
  have HEX := Lib.hid hex
  have HED := Lib.hid hed
  have HN := Lib.hid hN
  have hN9 : N ≤ 100000 := by omega
  clear h hF hok hB hN hat hex hed hl
  go_enter Tryz.func77, Tryz.ntmps77
  go_wp2_with fail
  go_loop [6] (fun i => ∃ k : Nat, k ≤ N ∧ i = .int .i64 k ∧ Hid (k ≤ (l.takeWhile p).length)) (fun i => N - (intOf i).toNat)
  case atStart => exact ⟨0, Nat.zero_le _, rfl, Nat.zero_le _⟩
  case round =>
    obtain ⟨k, hk, rfl, HK⟩ := hrel
    have fin : k = (l.takeWhile p).length → Hid (B.extract 0 k = txt (l.takeWhile p) ∧ B.extract k N = txt (l.dropWhile p)) := fun hkk => by
      obtain ⟨t1, t2⟩ := tw_take (p := p) l
      rw [← hkk] at t1 t2
      exact ⟨by rw [HEX.out, t1], by rw [HED.out, t2]⟩
    have FIN := Lib.hid fin
    clear fin
    by_cases hlt : k < N
    · have hq : (k : Int) < N := by omega
      have hq0 : (0 : Int) ≤ k := by omega
      have hkB : k < B.size := by omega
      have hc1 : B[k].toNat < 256 := B[k].toNat_lt
      have hstep := tw_step HK.out (by rw [HN.out]; exact hlt)
      have C := HF.out (B[k].toNat) B[k] rfl
      obtain ⟨_, hbk⟩ := List.getElem?_eq_some_iff.1 (HAT.out k hkB)
      rw [hbk] at hstep
      obtain ⟨b, hbb⟩ : ∃ b, p B[k] = b := ⟨_, rfl⟩
      rw [hbb] at C hstep
      have C := Lib.hid C
      have HS := Lib.hid hstep
      clear hstep hbb hbk
      cases b with
      | true =>
        have HK2 : Hid (k + 1 ≤ (l.takeWhile p).length) := HS.out.1 rfl
        go_wp2_with fail
        refine C.out.mono ?_
        rintro e w' ⟨rfl, rfl⟩
        go_wp2_with fail
        go_round
        case rel => exact ⟨k + 1, by omega, by go_num, HK2.out⟩
        case measure => simp [intOf]; omega
      | false =>
        have HZ := FIN.out (HS.out.2 rfl)
        cases f with
        | true => 
          have hl0 : l = [] := HOK.out rfl
          exfalso
          have := HN.out
          rw [hl0] at this
          simp at this; omega
        | false =>
          go_wp2_with fail
          refine C.out.mono ?_
          rintro e w' ⟨rfl, rfl⟩
          go_wp2_with fail
          go_ret
          refine ⟨ret_s HZ.out.1, ?_, Tk.set _ _ _⟩
          rw [HZ.out.2]
          exact H.out.set0 _
    · obtain rfl : k = N := by omega
      have hq : ¬ (k : Int) < k := by omega
      have HZ := FIN.out (tw_end HK.out (by rw [HN.out]; omega))
      cases f with
      | true =>
        have HL0 : Hid (l = []) := HOK.out rfl
        go_wp2_with fail
        go_ret
        refine ⟨ret_s (by rw [HL0.out]; rfl), ?_, Tk.refl _ _⟩
        unfold skipS
        have h9 := H.out
        rw [HL0.out] at h9 ⊢
        exact h9
      | false =>
        go_wp2_with fail
        go_ret
        refine ⟨ret_s HZ.out.1, ?_, Tk.set _ _ _⟩
        have h3 := H.out.set0 (l.dropWhile p)
        rw [← HZ.out.2] at h3
        unfold skipS; simpa using h3

set_option maxRecDepth 100000 in
set_option maxHeartbeats 1000000 in
theorem tkWhileA_c  (p : UInt8 → Bool) (hF : ∀ (n : Nat) (x : UInt8), x.toNat = n → Calls Tryz.prog 173 #[.int .u8 n] W fun e w' => e = .returned (.bool (p x)) ∧ w' = W) (h : PR W g s) (hok : s.Ok) (hl : s.l.length ≤ 100000) :
    Calls Tryz.prog 77 #[pt g, .func (.func 173) #[] #[]] W (Does W g (.string (txt (s.l.takeWhile p))) (skipS p s)) := by
  obtain ⟨c0, c1, hb, f0, f1⟩ := h.facts
  have H := Lib.hid h
  have HF := Lib.hid hF
  have HOK := Lib.hid hok
  obtain ⟨l, f⟩ := s
  dsimp only at c0 c1 hl
  have e1 := txt_size l
  obtain ⟨N, hN⟩ : ∃ N, l.length = N := ⟨_, rfl⟩
  have hex : ∀ k, (txt l).extract 0 k = txt (l.take k) := fun k => ext_take l
  have hed : ∀ k, (txt l).extract k N = txt (l.drop k) := fun k => ext_drop l hN.symm
  obtain ⟨B, hB⟩ : ∃ B, txt l = B := ⟨_, rfl⟩
  rw [hB] at c0 e1
  simp only [hB] at hex hed
  have hat : ∀ k (hk : k < B.size), l[k]? = some B[k] := fun k hk => by
    subst hB
    rw [at_txt (by rw [txt_size] at hk; exact hk)]; exact List.getElem?_eq_getElem _
  rw [hN] at e1
  have HAT := Lib.hid hat
  have HEX := Lib.hid hex
  have HED := Lib.hid hed
  have HN := Lib.hid hN
  have hN9 : N ≤ 100000 := by omega
  clear h hF hok hB hN hat hex hed hl
  go_enter Tryz.func77, Tryz.ntmps77
  go_wp2_with fail
  go_loop [6] (fun i => ∃ k : Nat, k ≤ N ∧ i = .int .i64 k ∧ Hid (k ≤ (l.takeWhile p).length)) (fun i => N - (intOf i).toNat)
  case atStart => exact ⟨0, Nat.zero_le _, rfl, Nat.zero_le _⟩
  case round =>
    obtain ⟨k, hk, rfl, HK⟩ := hrel
    have fin : k = (l.takeWhile p).length → Hid (B.extract 0 k = txt (l.takeWhile p) ∧ B.extract k N = txt (l.dropWhile p)) := fun hkk => by
      obtain ⟨t1, t2⟩ := tw_take (p := p) l
      rw [← hkk] at t1 t2
      exact ⟨by rw [HEX.out, t1], by rw [HED.out, t2]⟩
    have FIN := Lib.hid fin
    clear fin
    by_cases hlt : k < N
    · have hq : (k : Int) < N := by omega
      have hq0 : (0 : Int) ≤ k := by omega
      have hkB : k < B.size := by omega
      have hc1 : B[k].toNat < 256 := B[k].toNat_lt
      have hstep := tw_step HK.out (by rw [HN.out]; exact hlt)
      have C := HF.out (B[k].toNat) B[k] rfl
      obtain ⟨_, hbk⟩ := List.getElem?_eq_some_iff.1 (HAT.out k hkB)
      rw [hbk] at hstep
      obtain ⟨b, hbb⟩ : ∃ b, p B[k] = b := ⟨_, rfl⟩
      rw [hbb] at C hstep
      have C := Lib.hid C
      have HS := Lib.hid hstep
      clear hstep hbb hbk
      cases b with
      | true =>
        have HK2 : Hid (k + 1 ≤ (l.takeWhile p).length) := HS.out.1 rfl
        go_wp2_with fail
        refine C.out.mono ?_
        rintro e w' ⟨rfl, rfl⟩
        go_wp2_with fail
        go_round
        case rel => exact ⟨k + 1, by omega, by go_num, HK2.out⟩
        case measure => simp [intOf]; omega
      | false =>
        have HZ := FIN.out (HS.out.2 rfl)
        cases f with
        | true => 
          have hl0 : l = [] := HOK.out rfl
          exfalso
          have := HN.out
          rw [hl0] at this
          simp at this; omega
        | false =>
          go_wp2_with fail
          refine C.out.mono ?_
          rintro e w' ⟨rfl, rfl⟩
          go_wp2_with fail
          go_ret
          refine ⟨ret_s HZ.out.1, ?_, Tk.set _ _ _⟩
          rw [HZ.out.2]
          exact H.out.set0 _
    · obtain rfl : k = N := by omega
      have hq : ¬ (k : Int) < k := by omega
      have HZ := FIN.out (tw_end HK.out (by rw [HN.out]; omega))
      cases f with
      | true =>
        have HL0 : Hid (l = []) := HOK.out rfl
        go_wp2_with fail
        go_ret
        refine ⟨ret_s (by rw [HL0.out]; rfl), ?_, Tk.refl _ _⟩
        unfold skipS
        have h9 := H.out
        rw [HL0.out] at h9 ⊢
        exact h9
      | false =>
        go_wp2_with fail
        go_ret
        refine ⟨ret_s HZ.out.1, ?_, Tk.set _ _ _⟩
        have h3 := H.out.set0 (l.dropWhile p)
        rw [← HZ.out.2] at h3
        unfold skipS; simpa using h3

end Go.Proofs.YtdpmnmiimfhlhaaGreatDoor
set_option linter.unusedVariables false
set_option linter.unusedSimpArgs false
namespace Go.Proofs.YtdpmnmiimfhlhaaGreatDoor
open Go Go.RowKit
variable {W : World} {g : Nat} {s : RS}

def setL : List UInt8 := [42, 48, 49, 50, 51, 52, 53, 54, 55, 56, 57, 58, 44]
def setB (x : UInt8) : Bool := setL.contains x
theorem setB_idx : ∀ n < 256, decide (0 ≤ Lib.indexByte setL (UInt8.ofNat n)) = setB (UInt8.ofNat n) := by decide +kernel
theorem setB_bd : ∀ n < 256, -1 ≤ Lib.indexByte setL (UInt8.ofNat n) ∧ Lib.indexByte setL (UInt8.ofNat n) ≤ 13 := by decide +kernel
set_option maxRecDepth 20000 in
theorem sReadSet1_c (n : Nat) (x : UInt8) (hx : x.toNat = n) (w : World) : Calls Tryz.prog 78 #[.int .u8 n] w fun e w' => e = .returned (.bool (setB x)) ∧ w' = w := by
  have hn : n < 256 := by rw [← hx]; exact x.toNat_lt
  have hxn : x = UInt8.ofNat n := by rw [← hx]; exact UInt8.toNat_inj.1 (by rw [UInt8.toNat_ofNat']; have := x.toNat_lt; omega)
  have hb := setB_idx n hn
  have hbd := setB_bd n hn
  have hC : Calls Tryz.prog 79 #[.string ⟨#[42, 48, 49, 50, 51, 52, 53, 54, 55, 56, 57, 58, 44]⟩, .int .u8 n] w fun e w' => e = .returned (.int .i64 (Lib.indexByte setL (UInt8.ofNat n))) ∧ w' = w := by
    have := Tryz.strings_IndexByte ⟨#[42, 48, 49, 50, 51, 52, 53, 54, 55, 56, 57, 58, 44]⟩ n w
    exact this
  rw [hxn, ← hb]
  obtain ⟨i, hi⟩ : ∃ i, Lib.indexByte setL (UInt8.ofNat n) = i := ⟨_, rfl⟩
  rw [hi] at hC hbd ⊢
  have HC := Lib.hid hC
  clear hC hb hi hx hxn
  by_cases h3 : 0 ≤ i
  all_goals
    go_enter Tryz.func78, Tryz.ntmps78
    go_wp2_with fail
    refine HC.out.mono ?_
    rintro e w' ⟨rfl, rfl⟩
    go_wp2_with fail
    go_ret
    exact ⟨by simp [h3], rfl⟩

set_option maxRecDepth 100000 in
set_option maxHeartbeats 1000000 in
theorem tkWhileS_c  (p : UInt8 → Bool) (hF : ∀ (n : Nat) (x : UInt8), x.toNat = n → Calls Tryz.prog 78 #[.int .u8 n] W fun e w' => e = .returned (.bool (p x)) ∧ w' = W) (h : PR W g s) (hok : s.Ok) (hl : s.l.length ≤ 100000) :
    Calls Tryz.prog 77 #[pt g, .func (.func 78) #[] #[]] W (Does W g (.string (txt (s.l.takeWhile p))) (skipS p s)) := by
  obtain ⟨c0, c1, hb, f0, f1⟩ := h.facts
  have H := Lib.hid h
  have HF := Lib.hid hF
  have HOK := Lib.hid hok
  obtain ⟨l, f⟩ := s
  dsimp only at c0 c1 hl
  have e1 := txt_size l
  obtain ⟨N, hN⟩ : ∃ N, l.length = N := ⟨_, rfl⟩
  have hex : ∀ k, (txt l).extract 0 k = txt (l.take k) := fun k => ext_take l
  have hed : ∀ k, (txt l).extract k N = txt (l.drop k) := fun k => ext_drop l hN.symm
  obtain ⟨B, hB⟩ : ∃ B, txt l = B := ⟨_, rfl⟩
  rw [hB] at c0 e1
  simp only [hB] at hex hed
  have hat : ∀ k (hk : k < B.size), l[k]? = some B[k] := fun k hk => by
    subst hB
    rw [at_txt (by rw [txt_size] at hk; exact hk)]; exact List.getElem?_eq_getElem _
  rw [hN] at e1
  have HAT := Lib.hid hat
  have HEX := Lib.hid hex
  have HED := Lib.hid hed
  have HN := Lib.hid hN
  have hN9 : N ≤ 100000 := by omega
  clear h hF hok hB hN hat hex hed hl
  go_enter Tryz.func77, Tryz.ntmps77
  go_wp2_with fail
  go_loop [6] (fun i => ∃ k : Nat, k ≤ N ∧ i = .int .i64 k ∧ Hid (k ≤ (l.takeWhile p).length)) (fun i => N - (intOf i).toNat)
  case atStart => exact ⟨0, Nat.zero_le _, rfl, Nat.zero_le _⟩
  case round =>
    obtain ⟨k, hk, rfl, HK⟩ := hrel
    have fin : k = (l.takeWhile p).length → Hid (B.extract 0 k = txt (l.takeWhile p) ∧ B.extract k N = txt (l.dropWhile p)) := fun hkk => by
      obtain ⟨t1, t2⟩ := tw_take (p := p) l
      rw [← hkk] at t1 t2
      exact ⟨by rw [HEX.out, t1], by rw [HED.out, t2]⟩
    have FIN := Lib.hid fin
    clear fin
    by_cases hlt : k < N
    · have hq : (k : Int) < N := by omega
      have hq0 : (0 : Int) ≤ k := by omega
      have hkB : k < B.size := by omega
      have hc1 : B[k].toNat < 256 := B[k].toNat_lt
      have hstep := tw_step HK.out (by rw [HN.out]; exact hlt)
      have C := HF.out (B[k].toNat) B[k] rfl
      obtain ⟨_, hbk⟩ := List.getElem?_eq_some_iff.1 (HAT.out k hkB)
      rw [hbk] at hstep
      obtain ⟨b, hbb⟩ : ∃ b, p B[k] = b := ⟨_, rfl⟩
      rw [hbb] at C hstep
      have C := Lib.hid C
      have HS := Lib.hid hstep
      clear hstep hbb hbk
      cases b with
      | true =>
        have HK2 : Hid (k + 1 ≤ (l.takeWhile p).length) := HS.out.1 rfl
        go_wp2_with fail
        refine C.out.mono ?_
        rintro e w' ⟨rfl, rfl⟩
        go_wp2_with fail
        go_round
        case rel => exact ⟨k + 1, by omega, by go_num, HK2.out⟩
        case measure => simp [intOf]; omega
      | false =>
        have HZ := FIN.out (HS.out.2 rfl)
        cases f with
        | true => 
          have hl0 : l = [] := HOK.out rfl
          exfalso
          have := HN.out
          rw [hl0] at this
          simp at this; omega
        | false =>
          go_wp2_with fail
          refine C.out.mono ?_
          rintro e w' ⟨rfl, rfl⟩
          go_wp2_with fail
          go_ret
          refine ⟨ret_s HZ.out.1, ?_, Tk.set _ _ _⟩
          rw [HZ.out.2]
          exact H.out.set0 _
    · obtain rfl : k = N := by omega
      have hq : ¬ (k : Int) < k := by omega
      have HZ := FIN.out (tw_end HK.out (by rw [HN.out]; omega))
      cases f with
      | true =>
        have HL0 : Hid (l = []) := HOK.out rfl
        go_wp2_with fail
        go_ret
        refine ⟨ret_s (by rw [HL0.out]; rfl), ?_, Tk.refl _ _⟩
        unfold skipS
        have h9 := H.out
        rw [HL0.out] at h9 ⊢
        exact h9
      | false =>
        go_wp2_with fail
        go_ret
        refine ⟨ret_s HZ.out.1, ?_, Tk.set _ _ _⟩
        have h3 := H.out.set0 (l.dropWhile p)
        rw [← HZ.out.2] at h3
        unfold skipS; simpa using h3

end Go.Proofs.YtdpmnmiimfhlhaaGreatDoor
set_option linter.unusedVariables false
set_option linter.unusedSimpArgs false
namespace Go.Proofs.YtdpmnmiimfhlhaaGreatDoor
open Go Go.RowKit
variable {W : World} {g : Nat} {s : RS}

/-- A block that is no variable's. -/
def Away (g : Nat) : Prop := 8 ≠ g ∧ 9 ≠ g
theorem cell_ltA {w : World} {a : Addr} {v : Value} (h : w.cell? a = some v) : a.block < w.heap.size := by
  by_cases hb : a.block < w.heap.size
  · exact hb
  · have : w.heap[a.block]? = none := Array.getElem?_eq_none (by omega)
    unfold World.cell? at h
    rw [this] at h
    cases h
theorem cell_same {w w' : World} {a : Addr} (h : w'.heap[a.block]? = w.heap[a.block]?) : w'.cell? a = w.cell? a := by unfold World.cell?; rw [h]
theorem Errs.tk {w w' : World} (h : Errs w) (ht : Tk g w w') (hg : Away g) : Errs w' := by
  obtain ⟨⟨t1, p1, h1⟩, t2, p2, h2⟩ := h
  exact ⟨⟨t1, p1, (cell_same (ht.blk _ (cell_ltA h1) hg.1)).trans h1⟩, t2, p2, (cell_same (ht.blk _ (cell_ltA h2) hg.2)).trans h2⟩
theorem Errs.below {w w' : World} (h : Errs w) (hb : Below w.heap.size w w') : Errs w' := by
  obtain ⟨⟨t1, p1, h1⟩, t2, p2, h2⟩ := h
  exact ⟨⟨t1, p1, (cell_same (hb.block _ (cell_ltA h1))).trans h1⟩, t2, p2, (cell_same (hb.block _ (cell_ltA h2))).trans h2⟩

theorem pB_ok (l : List UInt8) (v : Nat) : Lib.parseUintB 32 l = .ok v ↔ l ≠ [] ∧ numV 0 l = some v ∧ v ≤ 4294967295 := by
  unfold Lib.parseUintB
  by_cases hn : l = []
  · rw [if_pos hn]; simp [hn]
  · rw [if_neg hn, show (2 ^ 32 - 1 : Nat) = 4294967295 from rfl, parseM l 0 v (by omega)]
    exact ⟨fun h => ⟨hn, h⟩, fun h => h.2⟩
theorem numR_none {l : List UInt8} (h : ∀ u, Lib.parseUintB 32 l ≠ .ok u) : numR l 4294967295 = none := by
  cases hn : numR l 4294967295 with
  | none => rfl
  | some v =>
    exfalso
    unfold numR at hn
    split at hn
    · cases hn
    · rename_i hl
      cases hv : numV 0 l with
      | none => rw [hv] at hn; cases hn
      | some n =>
        rw [hv] at hn
        dsimp only at hn
        split at hn
        · exact h n ((pB_ok l n).2 ⟨fun e => hl (.inl (by rw [e]; decide)), hv, by assumption⟩)
        · cases hn
theorem numR_zero {l : List UInt8} (h0 : l.head? = some 48) (h : l ≠ [48]) : numR l 4294967295 = none := by
  unfold numR
  rw [if_pos]
  right; right
  refine ⟨?_, h0⟩
  match l, h0, h with
  | [c], h0, h => simp at h0; subst h0; exact absurd rfl h
  | c :: d :: r, _, _ => simp
theorem numR_some {l : List UInt8} {u : Nat} (h : Lib.parseUintB 32 l = .ok u) (h0 : ¬ (l.head? = some 48 ∧ l ≠ [48])) : numR l 4294967295 = some u := by
  obtain ⟨hn, hv, hu⟩ := (pB_ok l u).1 h
  unfold numR
  rw [if_neg, hv]
  · dsimp only; rw [if_pos hu]
  · rintro (h1 | h1 | ⟨h1, h2⟩)
    · exact hn (List.length_eq_zero_iff.1 (by omega))
    · match l, hn with
      | c :: r, _ =>
        have h48 : c ≠ 48 := fun e => h0 ⟨by rw [e]; rfl, fun e2 => by rw [e2] at h1; simp at h1⟩
        unfold numV at hv
        split at hv
        · rename_i hd
          have h3 := numV_ge r _ u hv
          have h4 : c.toNat ≠ 48 := fun e => h48 (UInt8.toNat_inj.1 e)
          have h5 : 1 ≤ 10 * 0 + (c.toNat - 48) := by have := hd.1; omega
          have h6 : 10 ^ r.length ≤ u := Nat.le_trans (by simpa using Nat.mul_le_mul_right (10 ^ r.length) h5) h3
          have h7 : 10 ^ 10 ≤ 10 ^ r.length := Nat.pow_le_pow_right (by omega) (by simp at h1; omega)
          omega
        · cases hv
    · exact h0 ⟨h2, fun e => by rw [e] at h1; simp at h1⟩

set_option maxRecDepth 100000 in
theorem tkAtom_c (h : PR W g s) (hok : s.Ok) (hl : s.l.length ≤ 100000) : Calls Tryz.prog 110 #[pt g] W (Does W g (.string (txt (atomV s))) (atomS s)) := by
  have C := Lib.hid (tkWhileA_c atomB (fun n x hx => atom1_c n x hx W) h hok hl)
  have e0 := isEmpty_txt' (s.l.takeWhile atomB)
  have HA : Hid (atomS s = if s.l.takeWhile atomB = [] then .gone else skipS atomB s) := rfl
  unfold atomV
  obtain ⟨a, ha⟩ : ∃ a, s.l.takeWhile atomB = a := ⟨_, rfl⟩
  obtain ⟨t, ht⟩ : ∃ t, skipS atomB s = t := ⟨_, rfl⟩
  rw [ha] at C e0 HA ⊢
  rw [ht] at C HA
  rw [HA.out]
  obtain ⟨B, hB⟩ : ∃ B, txt a = B := ⟨_, rfl⟩
  rw [hB] at C e0 ⊢
  by_cases hz : a = []
  · have e1 : a.isEmpty = true := by rw [hz]; rfl
    rw [e1] at e0
    rw [if_pos hz]
    clear h HA ha ht hB e1 hz
    go_enter Tryz.func110, Tryz.ntmps110
    go_wp2_with fail
    refine C.out.mono ?_
    rintro e w1 ⟨rfl, h1, h2⟩
    have C2 := Lib.hid (tkmust_c h1 false)
    have H2 := Lib.hid h2
    clear h1 h2
    go_wp2_with fail
    refine C2.out.mono ?_
    rintro e w2 ⟨rfl, h3, h4⟩
    have H3 := Lib.hid h3
    have H4 := Lib.hid h4
    clear h3 h4
    go_wp2_with fail
    go_ret
    exact ⟨rfl, H3.out, H2.out.trans H4.out⟩
  · have e1 : a.isEmpty = false := by rw [List.isEmpty_eq_false_iff]; exact hz
    rw [e1] at e0
    rw [if_neg hz]
    clear h HA ha ht hB e1 hz
    go_enter Tryz.func110, Tryz.ntmps110
    go_wp2_with fail
    refine C.out.mono ?_
    rintro e w1 ⟨rfl, h1, h2⟩
    have C2 := Lib.hid (tkmust_c h1 true)
    have H2 := Lib.hid h2
    clear h1 h2
    go_wp2_with fail
    refine C2.out.mono ?_
    rintro e w2 ⟨rfl, h3, h4⟩
    have H3 := Lib.hid h3
    have H4 := Lib.hid h4
    clear h3 h4
    go_wp2_with fail
    go_ret
    exact ⟨rfl, H3.out, H2.out.trans H4.out⟩

set_option maxRecDepth 100000 in
set_option maxHeartbeats 1000000 in
theorem tkNumber_c (h : PR W g s) (hok : s.Ok) (hl : s.l.length ≤ 100000) (hE : Errs W) (hg : Away g) : Calls Tryz.prog 136 #[pt g] W (Does W g (.int .u32 (numN s)) (numS s)) := by
  have C := Lib.hid (tkWhileN_c digB (fun n x hx => num1_c n x hx W) h hok hl)
  have hle : (s.l.takeWhile digB).length ≤ 100000 := Nat.le_trans (tw_le _) hl
  unfold numN numS
  rw [show RS.mk (s.l.dropWhile digB) s.f = skipS digB s from rfl]
  unfold numO
  obtain ⟨a, ha⟩ : ∃ a, s.l.takeWhile digB = a := ⟨_, rfl⟩
  obtain ⟨t, ht⟩ : ∃ t, skipS digB s = t := ⟨_, rfl⟩
  rw [ha] at C hle ⊢
  rw [ht] at C ⊢
  have e1 := txt_size a
  have P := fun w hE => pu_c (txt a) (by rw [e1]; exact hle) w hE
  rw [data_txt] at P
  have h48 := toList_txt a
  obtain ⟨B, hB⟩ : ∃ B, txt a = B := ⟨_, rfl⟩
  have hhd : ∀ h : 0 < B.size, a.head? = some B[0] := fun h => by
    rw [show a = B.data.toList by rw [← hB, data_txt]]; exact head_eq h
  rw [hB] at C P e1 h48
  have HP := Lib.hid P
  have HHD := Lib.hid hhd
  have HE := Lib.hid hE
  have HA0 : Hid (a = [] → B.size = 0) := fun h => by rw [e1, h]; rfl
  have HT := Lib.hid h48
  obtain ⟨n, hn⟩ : ∃ n, (numR a 4294967295).getD 0 = n := ⟨_, rfl⟩
  obtain ⟨z, hz⟩ : ∃ z, (if (numR a 4294967295).isSome = true then t else RS.gone) = z := ⟨_, rfl⟩
  rw [hn, hz]
  have HNN := Lib.hid hn
  have HZZ := Lib.hid hz
  clear h P hhd hE ha ht hB e1 h48 hn hz
  go_enter Tryz.func136, Tryz.ntmps136
  go_wp2_with fail
  refine C.out.mono ?_
  rintro e w1 ⟨rfl, h1, h2⟩
  have H1 := Lib.hid h1
  have H2 := Lib.hid h2
  have CP := Lib.hid (HP.out w1 (HE.out.tk h2 hg))
  clear h1 h2
  go_wp2_with fail
  refine CP.out.mono ?_
  rintro e w2 ⟨hr, hb2⟩
  have HK := Lib.hid (H2.out.trans (Tk.of_below (g := g) hb2))
  have H3 := Lib.hid (H1.out.tk (Tk.of_below (g := g + 1) hb2) (by omega))
  clear hb2 CP
  rcases hr with ⟨u, hu, hu9, rfl⟩ | ⟨hu, x, tt, pp, rfl⟩
  · have hne : a ≠ [] := ((pB_ok a u).1 hu).1
    have hsz : 0 < B.size := by
      rcases Nat.eq_zero_or_pos B.size with h | h
      · exfalso
        have h9 := HT.out
        have : B.toList = [] := by
          rw [ByteArray.toList_eq]; exact List.length_eq_zero_iff.1 (by rw [ba_len]; exact h)
        rw [this] at h9; exact hne h9.symm
      · exact h
    have hq1 : (0 : Int) < B.size := by omega
    have hc1 : B[0].toNat < 256 := B[0].toNat_lt
    have hh := HHD.out hsz
    by_cases hz : B[0].toNat = 48
    · have hz' : B[0] = 48 := UInt8.toNat_inj.1 hz
      rw [hz'] at hh
      have ez : ((B[0].toNat : Int) == 48) = true := by rw [beq_iff_eq]; omega
      by_cases h1 : a = [48]
      · have hv : numR a 4294967295 = some u := numR_some hu (fun h => h.2 h1)
        have HQ : Hid (u = n ∧ t = z) := ⟨by rw [← HNN.out, hv]; rfl, by rw [← HZZ.out, hv]; rfl⟩
        have ec : (B.toList == [48]) = true := by rw [HT.out, h1]; rfl
        have hm : (u : Int) % 4294967296 = u := by omega
        clear hv hu hh hz hz' h1 hne
        go_wp2_with fail
        go_ret
        exact ⟨by rw [← HQ.out.1]; simp [hm], HQ.out.2 ▸ H3.out, HK.out⟩
      · have hv : numR a 4294967295 = none := numR_zero hh h1
        have HQ : Hid (0 = n ∧ RS.gone = z) := ⟨by rw [← HNN.out, hv]; rfl, by rw [← HZZ.out, hv]; rfl⟩
        have ec : (B.toList == [48]) = false := by rw [HT.out, beq_eq_false_iff_ne]; exact h1
        have C4 := Lib.hid (tkFail_c H3.out)
        clear hv hu hh hz hz' h1 hne
        go_wp2_with fail
        refine C4.out.mono ?_
        rintro e w3 ⟨rfl, h5, h6⟩
        have H5 := Lib.hid h5
        have H6 := Lib.hid (HK.out.trans h6)
        clear h5 h6
        go_wp2_with fail
        go_ret
        exact ⟨by rw [← HQ.out.1]; rfl, HQ.out.2 ▸ H5.out, H6.out⟩
    · have ez : ((B[0].toNat : Int) == 48) = false := by rw [beq_eq_false_iff_ne]; omega
      have hv : numR a 4294967295 = some u := numR_some hu (fun h => hz (by
        have := h.1
        rw [hh] at this
        rw [Option.some.inj this]; rfl))
      have HQ : Hid (u = n ∧ t = z) := ⟨by rw [← HNN.out, hv]; rfl, by rw [← HZZ.out, hv]; rfl⟩
      have hm : (u : Int) % 4294967296 = u := by omega
      clear hv hu hh hz hne
      go_wp2_with fail
      go_ret
      exact ⟨by rw [← HQ.out.1]; simp [hm], HQ.out.2 ▸ H3.out, HK.out⟩
  · have hv : numR a 4294967295 = none := numR_none hu
    have HQ : Hid (0 = n ∧ RS.gone = z) := ⟨by rw [← HNN.out, hv]; rfl, by rw [← HZZ.out, hv]; rfl⟩
    have C4 := Lib.hid (tkFail_c H3.out)
    clear hv hu
    go_wp2_with fail
    refine C4.out.mono ?_
    rintro e w3 ⟨rfl, h5, h6⟩
    have H5 := Lib.hid h5
    have H6 := Lib.hid (HK.out.trans h6)
    clear h5 h6
    go_wp2_with fail
    go_ret
    exact ⟨by rw [← HQ.out.1]; rfl, HQ.out.2 ▸ H5.out, H6.out⟩
end Go.Proofs.YtdpmnmiimfhlhaaGreatDoor
set_option linter.unusedVariables false
set_option linter.unusedSimpArgs false
namespace Go.Proofs.YtdpmnmiimfhlhaaGreatDoor
open Go Go.ChangeShapes Go.WideShapes Go.ChangeAt Go.WideElems Go.RowKit

theorem own : ownKnob Tryz.prog.godebug = none := by kernel_rfl

/-- The last step of a law's row that lists no variable of its own. -/
theorem post_law {H : Type} {enc : TypeId × Value → H} {P : Program} {f : Func} {s : ChangeSpec} {apart fresh handsOn : Bool} {W W' : World} {args : Array Value} {v : Value} {ds gs : List (DataW H)} {before pa : List MemPlace}
    (hW : DataW.Whole enc P f.params.toList s.vars apart W args.toList ds gs before)
    (hres : ∀ (b : Nat) (sp : Nat → Bool) (hd : Bool), DataW.TrodAll enc P W' b sp hd f.resultTypes.toList (v.resultList f.resultTypes.size) (s.fn H (ds ++ gs)).results [])
    (hargs : DataW.TrodAll enc P W' 0 (fun b => decide (b < W.heap.size)) true f.params.toList args.toList (s.fn H (ds ++ gs)).args pa)
    (hvars : DataW.TrodVars enc P W' (fun b => decide (b < W.heap.size)) s.vars (s.fn H (ds ++ gs)).vars [])
    (hps : before = pa) (hb : Below W.heap.size W W') : s.post enc P f apart fresh handsOn false W args v W' := by
  subst hps
  refine ⟨ds, gs, before, [], before, [], hW, hres _ _ _, hargs, hvars, ?_, fun h => by cases h⟩
  exact World.keptBut_mono (fun p hp => ⟨hp, .inr (.inl hp)⟩) (hb.frame (· ∈ before))

/-- The arguments read behind the call as they did. -/
theorem args_below {H : Type} {enc : TypeId × Value → H} {P : Program} (hl : laidOutB P = true) {W W' : World} (hb : Below W.heap.size W W') :
    ∀ {ts : List TypeId} {vs : List Value} {ds : List (DataW H)} {ps : List MemPlace}, (ts.all fun t => P.readableRec t && decide (t < P.types.size)) = true → DataW.TrodAll enc P W 0 (fun _ => true) true ts vs ds ps →
      DataW.TrodAll enc P W' 0 (fun b => decide (b < W.heap.size)) true ts vs ds ps
  | [], vs, ds, ps, _, h => by
    obtain ⟨rfl, rfl, rfl⟩ := trodAll_nil h
    exact trodAll_mk0
  | t :: ts, vs, ds, ps, hr, h => by
    have hlt := h.lt
    obtain ⟨v, vs', d, ds', p, q, rfl, rfl, rfl, h0, h1⟩ := trodAll_cons h
    rw [List.all_cons, Bool.and_eq_true, Bool.and_eq_true] at hr
    exact trodAll_cons_mk (Below.trod hl hr.1.1 (of_decide_eq_true hr.1.2) h0 hb (fun x hx => hlt x (List.mem_append_left _ hx))) (args_below hl hb hr.2 h1)

/-- A law that returned true and made memory at most. -/
theorem law_post {H : Type} {enc : TypeId × Value → H} {P : Program} {f : Func} {s : ChangeSpec} {apart fresh handsOn : Bool} {W W' : World} {args : Array Value} {ds gs : List (DataW H)} {before : List MemPlace} {tb : TypeId}
    (hl : laidOutB P = true) (hrt : f.resultTypes = #[tb]) (hub : P.underlying tb = some .bool) (hread : (f.params.toList.all fun t => P.readableRec t && decide (t < P.types.size)) = true) (hvs : s.vars = [])
    (hW : DataW.Whole enc P f.params.toList s.vars apart W args.toList ds gs before)
    (hfn : s.fn H (ds ++ gs) = { results := [.lit (.bool true)], args := ds }) (hb : Below W.heap.size W W') : s.post enc P f apart fresh handsOn false W args (.bool true) W' := by
  have hW2 := hW
  obtain ⟨p, q, hA, hV, hbef, hfz, hnd⟩ := hW
  rw [hvs] at hV
  obtain ⟨rfl, rfl⟩ := trodVars_none hV
  rw [List.append_nil] at hbef
  refine post_law (pa := p) hW2 (fun b sp hd => ?_) ?_ ?_ hbef hb
  · rw [hfn, hrt]
    exact trodAll_mk1 (shut_bool hub _)
  · rw [hfn]
    exact args_below hl hb hread hA
  · rw [hfn, hvs]
    rfl

theorem block_of_cell {W : World} {a : Addr} {v : Value} (h : W.cell? a = some v) : a.block < W.heap.size ∧ a.spot = none := by
  unfold World.cell? at h
  cases hb : W.heap[a.block]? with
  | none => rw [hb] at h; cases h
  | some o =>
    refine ⟨(Array.getElem?_eq_some_iff.1 hb).1, ?_⟩
    rw [hb] at h
    cases o with
    | cells c e fz =>
      cases hs : a.spot with
      | none => rfl
      | some x => simp [hs] at h
    | _ => cases h

/-- An argument that is a slice of integers, none of them below nought. -/
theorem open_slice_nat {H : Type} {enc : TypeId × Value → H} {P : Program} {W : World} {base : Nat} {t e : TypeId} {k : IntKind} {v : Value} {d : DataW H} {p : List MemPlace}
    (ht : P.underlying t = some (.slice e)) (he : P.underlying e = some (.int k)) (hc : P.cellsOf e = 1) (hpos : ∀ n, (Lit.int k n).wf = true → 0 ≤ n)
    (hv : Value.okWide P W .any base t v) (h : DataW.Trod enc P W 0 (fun _ => true) true t v d p) :
    v = .slice none 0 0 ∨ ∃ (a : Addr) (len cap : Nat) (z : Nat → Nat), v = .slice (some a) len cap ∧ len ≤ cap ∧ cap ≤ maxLen ∧
      ∀ i, i < len → ∃ b off, a = ⟨b, off, none⟩ ∧ b < W.heap.size ∧ W.cell? ⟨b, off + i, none⟩ = some (.int k (z i)) ∧ (Lit.int k (z i)).wf = true := by
  obtain ⟨a0, len0, cap0, rfl⟩ := okWide_slice ht hv
  obtain ⟨fuel, hf⟩ := h
  rcases open_ints ht he hc hf with ⟨hcs, _⟩ | ⟨a, len, cap, zs, hcs, _, hl, hm, hz, _, hcell, hwz⟩
  · left
    simpa [Value.cells] using hcs
  · right
    refine ⟨a, len, cap, fun i => (zs.getD i 0).toNat, by simpa [Value.cells] using hcs, hl, hm, fun i hi => ?_⟩
    simp only [if_true] at hz
    have hil : i < zs.length := by omega
    have h1 := hcell i hil
    have hmem : zs.getD i 0 ∈ zs := by
      rw [List.getD_eq_getElem?_getD, List.getElem?_eq_getElem hil]; exact List.getElem_mem hil
    have hw := hwz _ hmem
    have h0 := hpos _ hw
    have e : ((zs.getD i 0).toNat : Int) = zs.getD i 0 := by omega
    obtain ⟨b, o, s⟩ := a
    cases s with
    | none =>
      have ea : (Addr.add ⟨b, o, none⟩ i) = ⟨b, o + i, none⟩ := by simp [Addr.add]
      rw [ea] at h1
      exact ⟨b, o, rfl, (block_of_cell h1).1, by rw [e]; exact h1, by rw [e]; exact hw⟩
    | some x =>
      have h2 := (block_of_cell (hcell 0 (by omega))).2
      simp [Addr.add] at h2

theorem wf_nonneg_u64 (n : Int) (h : (Lit.int .u64 n).wf = true) : 0 ≤ n := by
  simp [Lit.wf, IntKind.min, IntKind.max, IntKind.bits, IntKind.signed] at h
  omega
theorem wf_nonneg_u32 (n : Int) (h : (Lit.int .u32 n).wf = true) : 0 ≤ n := by
  simp [Lit.wf, IntKind.min, IntKind.max, IntKind.bits, IntKind.signed] at h
  omega
theorem wf_nonneg_u8 (n : Int) (h : (Lit.int .u8 n).wf = true) : 0 ≤ n := by
  simp [Lit.wf, IntKind.min, IntKind.max, IntKind.bits, IntKind.signed] at h
  omega
theorem nat_u64 {n : Int} (h : (Lit.int .u64 n).wf = true) : ∃ v : Nat, n = v ∧ v < 18446744073709551616 := by
  simp [Lit.wf, IntKind.min, IntKind.max, IntKind.bits, IntKind.signed] at h
  exact ⟨n.toNat, by omega, by omega⟩
theorem nat_u32 {n : Int} (h : (Lit.int .u32 n).wf = true) : ∃ v : Nat, n = v ∧ v < 4294967296 := by
  simp [Lit.wf, IntKind.min, IntKind.max, IntKind.bits, IntKind.signed] at h
  exact ⟨n.toNat, by omega, by omega⟩
theorem nat_u16 {n : Int} (h : (Lit.int .u16 n).wf = true) : ∃ v : Nat, n = v ∧ v < 65536 := by
  simp [Lit.wf, IntKind.min, IntKind.max, IntKind.bits, IntKind.signed] at h
  exact ⟨n.toNat, by omega, by omega⟩
theorem nat_u8 {n : Int} (h : (Lit.int .u8 n).wf = true) : ∃ v : Nat, n = v ∧ v < 256 := by
  simp [Lit.wf, IntKind.min, IntKind.max, IntKind.bits, IntKind.signed] at h
  exact ⟨n.toNat, by omega, by omega⟩
theorem bd_i64 {n : Int} (h : (Lit.int .i64 n).wf = true) : -9223372036854775808 ≤ n ∧ n ≤ 9223372036854775807 := by
  simp [Lit.wf, IntKind.min, IntKind.max, IntKind.bits, IntKind.signed] at h
  omega
end Go.Proofs.YtdpmnmiimfhlhaaGreatDoor
set_option linter.unusedVariables false
set_option linter.unusedSimpArgs false
namespace Go.Proofs.YtdpmnmiimfhlhaaGreatDoor
open Go Go.ChangeShapes Go.WideShapes Go.ChangeAt Go.RowKit Go.Deep

/-- A key, as a tree, with the addresses of its rows. -/
inductive KT where
  | mk (kind : Int) (flag : Nat) (set : List (Nat × Nat)) (n : Nat) (s : List UInt8) (kids : List KT) (sp : Option Addr) (scap : Nat) (kp : Option Addr) (kcap : Nat) : KT
def KT.kids : KT → List KT | .mk _ _ _ _ _ kids _ _ _ _ => kids
/-- Its six cells. -/
def KT.cells : KT → List Value | .mk kind flag set n s kids sp scap kp kcap => [.int .i64 kind, .int .u8 flag, .slice sp set.length scap, .int .u32 n, .string (txt s), .slice kp kids.length kcap]
def KT.val (k : KT) : Value := .agg k.cells.toArray
mutual
/-- What a key reaches lies so. -/
def KeyC (W : World) : KT → Prop
  | .mk kind flag set n s kids sp scap kp kcap => flag < 256 ∧ n ≤ 4294967295 ∧ (set.length ≤ maxLen ∧ kids.length ≤ maxLen ∧ s.length ≤ maxLen) ∧ PairsAt W sp set ∧ KidsC W kids kp 0
/-- The keys of a row, from a place on. -/
def KidsC (W : World) : List KT → Option Addr → Nat → Prop
  | [], _, _ => True
  | k :: r, kp, i => (∃ (b off : Nat), kp = some ⟨b, off, none⟩ ∧ b < W.heap.size ∧ (∀ j u, k.cells[j]? = some u → W.cell? ⟨b, off + i * 6 + j, none⟩ = some u) ∧ KeyC W k) ∧ KidsC W r kp (i + 1)
end
mutual
theorem KeyC.below {W W' : World} (hb : Below W.heap.size W W') : ∀ (k : KT), KeyC W k → KeyC W' k
  | .mk kind flag set n s kids sp scap kp kcap, h => by
    unfold KeyC at h ⊢
    obtain ⟨h2, h3, hm, h4, h5⟩ := h
    exact ⟨h2, h3, hm, h4.below hb, KidsC.below hb kids kp 0 h5⟩
theorem KidsC.below {W W' : World} (hb : Below W.heap.size W W') : ∀ (r : List KT) (kp : Option Addr) (i : Nat), KidsC W r kp i → KidsC W' r kp i
  | [], kp, i, h => by unfold KidsC; trivial
  | k :: r, kp, i, h => by
    unfold KidsC at h ⊢
    obtain ⟨⟨b, off, h1, h2, h3, h4⟩, h5⟩ := h
    exact ⟨⟨b, off, h1, Nat.lt_of_lt_of_le h2 hb.size, fun j u hu => (hb.cell (p := ⟨b, _, none⟩) h2).trans (h3 j u hu), KeyC.below hb k h4⟩, KidsC.below hb r kp (i + 1) h5⟩
end
/-- The key at a place of a row. -/
theorem KidsC.at {W : World} : ∀ (r : List KT) (kp : Option Addr) (i j : Nat) (k : KT), KidsC W r kp i → r[j]? = some k →
    ∃ (b off : Nat), kp = some ⟨b, off, none⟩ ∧ b < W.heap.size ∧ (∀ q u, k.cells[q]? = some u → W.cell? ⟨b, off + (i + j) * 6 + q, none⟩ = some u) ∧ KeyC W k
  | [], kp, i, j, k, h, hj => by simp at hj
  | k0 :: r, kp, i, 0, k, h, hj => by
    unfold KidsC at h
    simp at hj
    subst hj
    exact h.1
  | k0 :: r, kp, i, j + 1, k, h, hj => by
    unfold KidsC at h
    have := KidsC.at r kp (i + 1) j k h.2 (by simpa using hj)
    rw [show i + 1 + j = i + (j + 1) from by omega] at this
    exact this
theorem kids_of {W : World} : ∀ (r : List KT) (kp : Option Addr) (i : Nat), (∀ j k, r[j]? = some k → ∃ (b off : Nat), kp = some ⟨b, off, none⟩ ∧ b < W.heap.size ∧ (∀ q u, k.cells[q]? = some u → W.cell? ⟨b, off + (i + j) * 6 + q, none⟩ = some u) ∧ KeyC W k) → KidsC W r kp i
  | [], kp, i, h => by unfold KidsC; trivial
  | k0 :: r, kp, i, h => by
    unfold KidsC
    refine ⟨h 0 k0 rfl, kids_of r kp (i + 1) fun j k hj => ?_⟩
    have := h (j + 1) k (by simpa using hj)
    rw [show i + (j + 1) = i + 1 + j from by omega] at this
    exact this
theorem KT.ind {P : KT → Prop} (h : ∀ kind flag set n s kids sp scap kp kcap, (∀ k ∈ kids, P k) → P (.mk kind flag set n s kids sp scap kp kcap)) (k : KT) : P k :=
  KT.rec (motive_1 := P) (motive_2 := fun l => ∀ k ∈ l, P k) (fun kind flag set n s kids sp scap kp kcap ih => h kind flag set n s kids sp scap kp kcap ih)
    (fun k hk => by simp at hk) (fun a r ha hr k hk => by
      rcases List.mem_cons.1 hk with e | hk
      · rw [e]; exact ha
      · exact hr k hk) k

theorem u8_natK {a : Int} (h : (Lit.int .u8 a).wf = true) : ∃ n : Nat, a = n ∧ n < 256 := by
  have h2 : 0 ≤ a ∧ a < 256 := by
    simp [Lit.wf, IntKind.min, IntKind.max, IntKind.bits, IntKind.signed] at h
    omega
  exact ⟨a.toNat, by omega, by omega⟩
theorem u32_natK {a : Int} (h : (Lit.int .u32 a).wf = true) : ∃ n : Nat, a = n ∧ n ≤ 4294967295 := by
  have h2 : 0 ≤ a ∧ a < 4294967296 := by
    simp [Lit.wf, IntKind.min, IntKind.max, IntKind.bits, IntKind.signed] at h
    omega
  exact ⟨a.toNat, by omega, by omega⟩
/-- A slice's cell, opened: its elements' cells, each trodden with less. -/
theorem rows_of_trod {H : Type} {enc : TypeId × Value → H} {P : Program} {W : World} {C : Nat} {t e : TypeId} {fuel : Nat} {cs : List Value} {x : DataW H × List MemPlace}
    (ht : P.underlying t = some (.slice e)) (hC : P.cellsOf e = C) (h0 : 0 < C) (h : DataW.trod enc P W 0 (fun _ => true) true fuel t cs = some x) :
    cs = [.slice none 0 0] ∨ ∃ (a : Addr) (len cap n : Nat), cs = [.slice (some a) len cap] ∧ fuel = n + 1 ∧ len ≤ maxLen ∧
      ∀ i, i < len → ∃ b off, a = ⟨b, off, none⟩ ∧ b < W.heap.size ∧ ∃ (cells : List Value) (y : DataW H × List MemPlace), cells.length = C ∧ (∀ k u, cells[k]? = some u → W.cell? ⟨b, off + i * C + k, none⟩ = some u) ∧
        DataW.trod enc P W 0 (fun _ => true) true n e cells = some y := by
  rcases DataW.trod_slice ht h with ⟨hcs, _⟩ | ⟨a, len, cap, elems, rest, n, hfu, hcs, _, _, hl, hm, hlen, hel, _, _⟩
  · exact .inl hcs
  · refine .inr ⟨a, len, cap, n, hcs, hfu, by omega, fun i hil => ?_⟩
    have row : ∀ i', i' < len → ∃ (cells : List Value) (y : DataW H × List MemPlace), cells.length = C ∧ (∀ k u, cells[k]? = some u → W.cell? (a.add (i' * C + k)) = some u) ∧ DataW.trod enc P W 0 (fun _ => true) true n e cells = some y := by
      intro i' hi'
      have h1 := hel i' hi'
      rw [List.getElem?_eq_getElem (by omega), hC, Option.bind_eq_some_iff] at h1
      obtain ⟨cells, hcells, htr⟩ := h1
      obtain ⟨_, hlen, hat⟩ := World.cells?_some hcells
      refine ⟨cells, _, hlen, fun k u hk => ?_, htr⟩
      have hkl : k < C := by have := (List.getElem?_eq_some_iff.1 hk).1; omega
      rw [← Go.Deep.add_add, hat k hkl, hk]
    obtain ⟨b, o, s⟩ := a
    obtain ⟨cells0, y0, hl0, hc0, _⟩ := row 0 (by omega)
    obtain ⟨u0, hu0⟩ : ∃ u, cells0[0]? = some u := ⟨_, List.getElem?_eq_getElem (by omega)⟩
    have hx := hc0 0 u0 hu0
    have hs := (block_of_cell hx).2
    have hb := (block_of_cell hx).1
    simp only [Nat.zero_mul, Nat.add_zero, Addr.add, if_true] at hs hb
    subst hs
    obtain ⟨cells, y, hlc, hc, htr⟩ := row i hil
    refine ⟨b, o, rfl, hb, cells, y, hlc, fun k u hk => ?_, htr⟩
    rw [← hc k u hk]
    congr 1
    unfold Addr.add
    split
    · rename_i e; rw [Nat.add_assoc, e]; rfl
    · rw [Nat.add_assoc]
/-- A row of something, place by place, as one list. -/
theorem list_of {α : Type} [Inhabited α] {len : Nat} {Q : Nat → α → Prop} (h : ∀ i, i < len → ∃ x, Q i x) : ∃ l : List α, l.length = len ∧ ∀ i x, l[i]? = some x → Q i x := by
  have hq : ∀ i, ∃ x : α, i < len → Q i x := fun i => by
    by_cases hi : i < len
    · obtain ⟨x, hx⟩ := h i hi; exact ⟨x, fun _ => hx⟩
    · exact ⟨default, fun h => absurd h hi⟩
  obtain ⟨f, hf⟩ := Classical.skolem.1 hq
  refine ⟨(List.range len).map f, by simp, fun i x hx => ?_⟩
  have hi : i < len := by have := (List.getElem?_eq_some_iff.1 hx).1; simpa using this
  have hx2 : x = f i := by simpa [hi] using hx.symm
  subst hx2
  exact hf i hi
instance : Inhabited KT := ⟨.mk 0 0 [] 0 [] [] none 0 none 0⟩
set_option maxRecDepth 20000 in
theorem pairs_of_trod {H : Type} {enc : TypeId × Value → H} {W : World} {fuel : Nat} {c : Value} {x : DataW H × List MemPlace} (h : DataW.trod enc Tryz.prog W 0 (fun _ => true) true fuel 22 [c] = some x) :
    ∃ (p : Option Addr) (l : List (Nat × Nat)) (cap : Nat), c = .slice p l.length cap ∧ PairsAt W p l ∧ l.length ≤ maxLen := by
  have k32 : Tryz.prog.cellsOf 23 = 1 := by kernel_rfl
  rcases rows_of_trod Tryz.underlying22 (C := 2) (show Tryz.prog.cellsOf 115 = 2 by kernel_rfl) (by decide) h with hc | ⟨a, len, cap, n, hc, _, hmx, hi⟩
  · exact ⟨none, [], 0, (List.cons.inj hc).1, fun i r hr => by simp at hr, Nat.zero_le _⟩
  · obtain ⟨l, hl, hq⟩ := list_of (Q := fun i (q : Nat × Nat) => ∃ b off, some a = some ⟨b, off, none⟩ ∧ b < W.heap.size ∧ W.cell? ⟨b, off + i * 2, none⟩ = some (.int .u32 q.1) ∧ W.cell? ⟨b, off + i * 2 + 1, none⟩ = some (.int .u32 q.2)) fun i hil => by
      obtain ⟨b, off, rfl, hb, cells, y, hlc, hcs, htr⟩ := hi i hil
      obtain ⟨xs, m, _, _, hlen, hxs, hf⟩ := DataW.trod_struct Tryz.underlying115 htr
      match cells, hlc with
      | [c0, c1], _ =>
        have h0 := hf 0 _ rfl
        have h1 := hf 1 _ rfl
        rw [List.getElem?_eq_getElem (by rw [hxs]; decide)] at h0
        rw [List.getElem?_eq_getElem (by rw [hxs]; decide)] at h1
        change DataW.trod enc Tryz.prog W 0 _ true m 23 (([c0, c1].drop 0).take (Tryz.prog.cellsOf 23)) = _ at h0
        change DataW.trod enc Tryz.prog W 0 _ true m 23 (([c0, c1].drop 1).take (Tryz.prog.cellsOf 23)) = _ at h1
        rw [k32] at h0 h1
        obtain ⟨m0, hm0, _, wf0⟩ := DataW.trod_int Tryz.underlying23 h0
        obtain ⟨m1, hm1, _, wf1⟩ := DataW.trod_int Tryz.underlying23 h1
        obtain rfl := List.cons.inj hm0 |>.1
        obtain rfl := List.cons.inj hm1 |>.1
        obtain ⟨u0, rfl, _⟩ := u32_natK wf0
        obtain ⟨u1, rfl, _⟩ := u32_natK wf1
        exact ⟨(u0, u1), b, off, rfl, hb, hcs 0 _ rfl, hcs 1 _ rfl⟩
    exact ⟨some a, l, cap, by rw [hl]; exact (List.cons.inj hc).1, hq, by rw [hl]; exact hmx⟩
set_option maxRecDepth 20000 in
theorem key_of_trod {H : Type} {enc : TypeId × Value → H} {W : World} : ∀ (fuel : Nat) (cs : List Value) (x : DataW H × List MemPlace), DataW.trod enc Tryz.prog W 0 (fun _ => true) true fuel 26 cs = some x → ∃ k : KT, k.cells = cs ∧ KeyC W k := by
  intro fuel
  induction fuel using Nat.strongRecOn with
  | _ fuel ih =>
    intro cs x h
    have ki : Tryz.prog.cellsOf 3 = 1 := by kernel_rfl
    have k8 : Tryz.prog.cellsOf 5 = 1 := by kernel_rfl
    have k32 : Tryz.prog.cellsOf 23 = 1 := by kernel_rfl
    have kS : Tryz.prog.cellsOf 9 = 1 := by kernel_rfl
    have kR : Tryz.prog.cellsOf 22 = 1 := by kernel_rfl
    have kK : Tryz.prog.cellsOf 24 = 1 := by kernel_rfl
    have kE : Tryz.prog.cellsOf 26 = 6 := by kernel_rfl
    obtain ⟨xs, m, hfu, _, hlen, hxs, hf⟩ := DataW.trod_struct Tryz.underlying26 h
    rw [kE] at hlen
    match cs, hlen with
    | [c0, c1, c2, c3, c4, c5], _ =>
      have h0 := hf 0 _ rfl
      have h1 := hf 1 _ rfl
      have h2 := hf 2 _ rfl
      have h3 := hf 3 _ rfl
      have h4 := hf 4 _ rfl
      have h5 := hf 5 _ rfl
      rw [List.getElem?_eq_getElem (by rw [hxs]; decide)] at h0 h1 h2 h3 h4 h5
      change DataW.trod enc Tryz.prog W 0 _ true m 3 (([c0, c1, c2, c3, c4, c5].drop 0).take (Tryz.prog.cellsOf 3)) = _ at h0
      change DataW.trod enc Tryz.prog W 0 _ true m 5 (([c0, c1, c2, c3, c4, c5].drop 1).take (Tryz.prog.cellsOf 5)) = _ at h1
      change DataW.trod enc Tryz.prog W 0 _ true m 22 (([c0, c1, c2, c3, c4, c5].drop 2).take (Tryz.prog.cellsOf 22)) = _ at h2
      change DataW.trod enc Tryz.prog W 0 _ true m 23 (([c0, c1, c2, c3, c4, c5].drop 3).take (Tryz.prog.cellsOf 23)) = _ at h3
      change DataW.trod enc Tryz.prog W 0 _ true m 9 (([c0, c1, c2, c3, c4, c5].drop 4).take (Tryz.prog.cellsOf 9)) = _ at h4
      change DataW.trod enc Tryz.prog W 0 _ true m 24 (([c0, c1, c2, c3, c4, c5].drop 5).take (Tryz.prog.cellsOf 24)) = _ at h5
      rw [ki] at h0
      rw [k8] at h1
      rw [kR] at h2
      rw [k32] at h3
      rw [kS] at h4
      rw [kK] at h5
      obtain ⟨kind, hm0, _, _⟩ := DataW.trod_int Tryz.underlying3 h0
      obtain ⟨m1, hm1, _, wf1⟩ := DataW.trod_int Tryz.underlying5 h1
      obtain ⟨sp, set, scap, hm2, hset, hsl⟩ := pairs_of_trod h2
      obtain ⟨m3, hm3, _, wf3⟩ := DataW.trod_int Tryz.underlying23 h3
      obtain ⟨s4, hm4, _, ws4⟩ := DataW.trod_string Tryz.underlying9 h4
      obtain rfl := List.cons.inj hm0 |>.1
      obtain rfl := List.cons.inj hm1 |>.1
      obtain rfl := List.cons.inj hm3 |>.1
      obtain rfl := List.cons.inj hm4 |>.1
      subst hm2
      obtain ⟨fl, rfl, hfl⟩ := u8_natK wf1
      obtain ⟨n, rfl, hn⟩ := u32_natK wf3
      rcases rows_of_trod Tryz.underlying24 (C := 6) kE (by decide) h5 with hc | ⟨a, len, cap, n5, hc, hn5, hmx, hi⟩
      · obtain rfl := (List.cons.inj hc).1
        refine ⟨.mk kind fl set n s4.data.toList [] sp scap none 0, by simp only [KT.cells, txt_data, List.length_nil], ?_⟩
        unfold KeyC
        exact ⟨hfl, hn, ⟨hsl, Nat.zero_le _, by rw [ba_len]; exact ws4⟩, hset, by unfold KidsC; trivial⟩
      · obtain rfl := (List.cons.inj hc).1
        obtain ⟨kids, hkl, hq⟩ := list_of (Q := fun i (k : KT) => ∃ (b off : Nat), some a = some ⟨b, off, none⟩ ∧ b < W.heap.size ∧ (∀ q u, k.cells[q]? = some u → W.cell? ⟨b, off + (0 + i) * 6 + q, none⟩ = some u) ∧ KeyC W k) fun i hil => by
          obtain ⟨b, off, rfl, hb, cells, y, hlc, hcs, htr⟩ := hi i hil
          obtain ⟨k, rfl, hk⟩ := ih n5 (by omega) cells y htr
          exact ⟨k, b, off, rfl, hb, by rw [Nat.zero_add]; exact hcs, hk⟩
        refine ⟨.mk kind fl set n s4.data.toList kids sp scap (some a) cap, by simp only [KT.cells, txt_data, hkl], ?_⟩
        unfold KeyC
        exact ⟨hfl, hn, ⟨hsl, by rw [hkl]; exact hmx, by rw [ba_len]; exact ws4⟩, hset, kids_of kids (some a) 0 hq⟩
set_option maxRecDepth 20000 in
theorem open_key {H : Type} {enc : TypeId × Value → H} {W : World} {base : Nat} {v : Value} {d : DataW H} {p : List MemPlace} (hv : Value.okWide Tryz.prog W .any base 26 v) (h : DataW.Trod enc Tryz.prog W 0 (fun _ => true) true 26 v d p) :
    ∃ k : KT, v = k.val ∧ KeyC W k := by
  obtain ⟨cs, rfl, hcs⟩ := okWide_struct Tryz.underlying26 hv
  obtain ⟨fuel, hf⟩ := h
  have hcl : (Value.agg cs).cells = cs := rfl
  rw [hcl] at hf
  obtain ⟨k, h1, hk⟩ := key_of_trod fuel cs.toList _ hf
  exact ⟨k, by unfold KT.val; rw [h1], hk⟩
end Go.Proofs.YtdpmnmiimfhlhaaGreatDoor
set_option linter.unusedVariables false
set_option linter.unusedSimpArgs false
namespace Go.Proofs.YtdpmnmiimfhlhaaGreatDoor
open Go Go.RowKit
mutual
def sizeK : KT → Nat
  | .mk _ _ set _ s kids _ _ _ _ => if 2000 < s.length ∨ 80 < set.length then 201 else min (sizeR kids 1) 201
def sizeR : List KT → Nat → Nat
  | [], n => n
  | k :: r, n => if n ≤ 200 then sizeR r (n + sizeK k) else n
end
theorem sizeK_le (k : KT) : sizeK k ≤ 201 := by
  cases k
  unfold sizeK
  split <;> omega
theorem sizeR_go {l : List KT} {j n : Nat} {k : KT} (hk : l[j]? = some k) (hn : n ≤ 200) : sizeR (l.drop j) n = sizeR (l.drop (j + 1)) (n + sizeK k) := by
  obtain ⟨hj, rfl⟩ := List.getElem?_eq_some_iff.1 hk
  rw [List.drop_eq_getElem_cons hj, sizeR, if_pos hn]
theorem sizeR_stop {l : List KT} {j n : Nat} (h : l.length ≤ j ∨ 200 < n) : sizeR (l.drop j) n = n := by
  rcases h with h | h
  · rw [List.drop_eq_nil_of_le h, sizeR]
  · cases l.drop j with
    | nil => rw [sizeR]
    | cons a r => rw [sizeR, if_neg (by omega)]
/-- What a box of six cells holds. -/
theorem six_cells {W w : World} {t : TypeId} {c0 c1 c2 c3 c4 c5 : Value} {D : Nat} (hb : Below D (W.alloc (.cells #[c0, c1, c2, c3, c4, c5] t)) w) (hD : W.heap.size < D) :
    w.cell? ⟨W.heap.size, 0, none⟩ = some c0 ∧ w.cell? ⟨W.heap.size, 1, none⟩ = some c1 ∧ w.cell? ⟨W.heap.size, 2, none⟩ = some c2 ∧ w.cell? ⟨W.heap.size, 3, none⟩ = some c3 ∧ w.cell? ⟨W.heap.size, 4, none⟩ = some c4 ∧ w.cell? ⟨W.heap.size, 5, none⟩ = some c5 := by
  have h : w.heap[W.heap.size]? = some (.cells #[c0, c1, c2, c3, c4, c5] t (0, 0)) := (hb.block _ hD).trans (heap_alloc_new W _)
  refine ⟨?_, ?_, ?_, ?_, ?_, ?_⟩ <;> (unfold World.cell?; rw [h]; rfl)
set_option maxRecDepth 100000 in
set_option maxHeartbeats 4000000 in
theorem size_c (k : KT) : ∀ W, KeyC W k → Calls Tryz.prog 11 #[k.val] W fun e w' => e = .returned (.int .i64 (sizeK k)) ∧ Below W.heap.size W w' := by
  induction k using KT.ind with
  | h kind flag set n s kids sp scap kp kcap ih =>
    intro W hK
    have IH := Lib.hid ih
    unfold KeyC at hK
    obtain ⟨hfl, hn, ⟨_, hkm, _⟩, hset, hkids⟩ := hK
    unfold maxLen at hkm
    have HKids := Lib.hid hkids
    show Calls Tryz.prog 11 #[.agg #[.int .i64 kind, .int .u8 flag, .slice sp set.length scap, .int .u32 n, .string (txt s), .slice kp kids.length kcap]] W _
    have hSZ : Hid (sizeK (.mk kind flag set n s kids sp scap kp kcap) = if 2000 < s.length ∨ 80 < set.length then 201 else min (sizeR kids 1) 201) := by show _ = _; rw [sizeK]
    obtain ⟨Z, hZ⟩ : ∃ Z, sizeK (.mk kind flag set n s kids sp scap kp kcap) = Z := ⟨_, rfl⟩
    rw [hZ] at hSZ ⊢
    have e1 := txt_size s
    obtain ⟨X, hX⟩ : ∃ X, txt s = X := ⟨_, rfl⟩
    obtain ⟨M, hM⟩ : ∃ M, set.length = M := ⟨_, rfl⟩
    obtain ⟨N, hN⟩ : ∃ N, kids.length = N := ⟨_, rfl⟩
    rw [hX] at e1 ⊢
    rw [hM] at hSZ ⊢
    rw [hN] at hkm ⊢
    have HN := Lib.hid hN
    have hb0 : Below W.heap.size W (W.alloc (.cells #[.int .i64 kind, .int .u8 flag, .slice sp M scap, .int .u32 n, .string X, .slice kp N kcap] 26)) := (Below.refl _ _).alloc (Nat.le_refl _) _
    have HB0 := Lib.hid hb0
    obtain ⟨w0, hw0⟩ : ∃ w0, W.alloc (.cells #[.int .i64 kind, .int .u8 flag, .slice sp M scap, .int .u32 n, .string X, .slice kp N kcap] 26) = w0 := ⟨_, rfl⟩
    have h6 := fun w (hb : Below w0.heap.size w0 w) => six_cells (W := W) (w := w) (t := 26) (c0 := .int .i64 kind) (c1 := .int .u8 flag) (c2 := .slice sp M scap) (c3 := .int .u32 n) (c4 := .string X) (c5 := .slice kp N kcap) (D := w0.heap.size) (by rw [hw0]; exact hb) (by rw [← hw0]; simp)
    have H6 := Lib.hid h6
    rw [hw0] at HB0
    have HW0 := Lib.hid hw0
    clear ih hkids hset hfl hn hZ hM hN hb0 hw0 h6
    by_cases hg : 2000 < s.length ∨ 80 < M
    · have HZ2 : Hid (Z = 201) := hSZ.out.trans (if_pos hg)
      obtain ⟨c0, c1, c2, c3, c4, c5⟩ := H6.out w0 (Below.refl _ _)
      by_cases g1 : 2000 < s.length
      · have q : (2000 : Int) < X.size := by rw [e1]; omega
        clear hX e1 g1 hg
        go_enter Tryz.func11, Tryz.ntmps11
        go_wp2_with fail
        go_ret
        exact ⟨by rw [HZ2.out]; rfl, by rw [HW0.out]; exact HB0.out⟩
      · have q : ¬ (2000 : Int) < X.size := by rw [e1]; omega
        have q2 : (80 : Int) < M := by omega
        clear hX e1 g1 hg
        go_enter Tryz.func11, Tryz.ntmps11
        go_wp2_with fail
        go_ret
        exact ⟨by rw [HZ2.out]; rfl, by rw [HW0.out]; exact HB0.out⟩
    · have HZ2 : Hid (Z = min (sizeR kids 1) 201) := hSZ.out.trans (if_neg hg)
      have q : ¬ (2000 : Int) < X.size := by rw [e1]; omega
      have q2 : ¬ (80 : Int) < M := by omega
      clear hX e1 hg
      go_enter Tryz.func11, Tryz.ntmps11
      go_wp2_with fail
      rw [HW0.out]
      go_loopw [3, 4] (fun t3 t4 wr => ∃ (j m : Nat), j ≤ N ∧ m ≤ 401 ∧ t3 = .int .i64 m ∧ t4 = .int .i64 j ∧ Hid (sizeR (kids.drop j) m = sizeR kids 1) ∧ Hid (Below w0.heap.size w0 wr)) (fun _ t4 _ => N - (intOf t4).toNat)
      case atStart => exact ⟨0, 1, Nat.zero_le _, by omega, rfl, rfl, rfl, Below.refl _ _⟩
      case round =>
        obtain ⟨j, m, hj, hm, rfl, rfl, HS, HB⟩ := hrel
        obtain ⟨_, _, _, _, _, c5⟩ := H6.out wr HB.out
        by_cases hgo : j < N ∧ m ≤ 200
        · obtain ⟨hlt, hm2⟩ := hgo
          have hq : (j : Int) < N := by omega
          have hq0 : (0 : Int) ≤ j := by omega
          have hq2 : (m : Int) ≤ 200 := by omega
          have hkj : kids[j]? = some (kids[j]'(by rw [HN.out]; exact hlt)) := List.getElem?_eq_getElem _
          obtain ⟨k1, hk1⟩ : ∃ k1, kids[j]'(by rw [HN.out]; exact hlt) = k1 := ⟨_, rfl⟩
          rw [hk1] at hkj
          have hmem : k1 ∈ kids := List.mem_of_getElem? hkj
          have hWr : Below W.heap.size W wr := HB0.out.trans (HB.out.mono HB0.out.size)
          obtain ⟨b, off, rfl, hb, hcs, hK1⟩ := KidsC.at kids kp 0 j k1 (KidsC.below hWr kids kp 0 HKids.out) hkj
          have C1 := IH.out k1 hmem wr hK1
          have hle := sizeK_le k1
          have HS2 : Hid (sizeR (kids.drop (j + 1)) (m + sizeK k1) = sizeR kids 1) := (sizeR_go hkj hm2).symm.trans HS.out
          rw [Nat.zero_add] at hcs
          cases k1 with
          | mk kind1 flag1 set1 n1 s1 kids1 sp1 scap1 kp1 kcap1 =>
            have d0 := hcs 0 _ rfl
            have d1 := hcs 1 _ rfl
            have d2 := hcs 2 _ rfl
            have d3 := hcs 3 _ rfl
            have d4 := hcs 4 _ rfl
            have d5 := hcs 5 _ rfl
            rw [Nat.add_zero] at d0
            obtain ⟨z, hz⟩ : ∃ z, sizeK (.mk kind1 flag1 set1 n1 s1 kids1 sp1 scap1 kp1 kcap1) = z := ⟨_, rfl⟩
            rw [hz] at C1 hle HS2
            have C1 : Hid (Calls Tryz.prog 11 #[.agg #[.int .i64 kind1, .int .u8 flag1, .slice sp1 set1.length scap1, .int .u32 n1, .string (txt s1), .slice kp1 kids1.length kcap1]] wr fun e w' => e = .returned (.int .i64 z) ∧ Below wr.heap.size wr w') := C1
            obtain ⟨o6, ho6⟩ : ∃ o6, off + j * 6 = o6 := ⟨_, rfl⟩
            rw [ho6] at d0 d1 d2 d3 d4 d5
            clear hcs hK1 hz hk1 hkj hmem hWr
            go_wp2_with (first | (refine C1.out.mono ?_; rintro e w1 ⟨rfl, hb1⟩; have H1 := Lib.hid hb1; clear hb1) | fail)
            go_roundw
            case rel => exact ⟨j + 1, m + z, by omega, by omega, by go_num, by go_num, HS2.out, HB.out.trans (H1.out.mono HB.out.size)⟩
            case measure => simp [intOf]; omega
        · have HT : Hid (sizeR kids 1 = m) := by
            show _ = _
            rw [← HS.out]
            exact sizeR_stop (by rw [HN.out]; omega)
          have hfin : Hid (Below W.heap.size W wr) := HB0.out.trans (HB.out.mono HB0.out.size)
          by_cases hlt : j < N
          · have hq : (j : Int) < N := by omega
            have hq2 : ¬ (m : Int) ≤ 200 := by omega
            go_wp2_with fail
            go_ret
            refine ⟨?_, hfin.out⟩
            rw [HZ2.out, HT.out]
            exact congrArg (fun x => Ending.returned (.int .i64 x)) (show (min (_ : Int) 201) = ((min _ 201 : Nat) : Int) by omega)
          · obtain rfl : j = N := by omega
            have hq : ¬ (j : Int) < j := by omega
            go_wp2_with fail
            go_ret
            refine ⟨?_, hfin.out⟩
            rw [HZ2.out, HT.out]
            exact congrArg (fun x => Ending.returned (.int .i64 x)) (show (min (_ : Int) 201) = ((min _ 201 : Nat) : Int) by omega)
end Go.Proofs.YtdpmnmiimfhlhaaGreatDoor
set_option linter.unusedVariables false
set_option linter.unusedSimpArgs false
namespace Go.Proofs.YtdpmnmiimfhlhaaGreatDoor
open Go Go.RowKit

/-- What the iterator's own steps do: as 'Itself', but of the blocks below D it may turn those of 'mut'. -/
structure ItselfM (T0 : TypeId → Prop) (D : Nat) (mut' : Nat → Prop) (A B : World) : Prop where
  os : B.os = A.os
  tape : B.tape = A.tape
  output : B.output = A.output
  size : A.heap.size ≤ B.heap.size
  below : ∀ k, k < D → ¬ mut' k → B.heap[k]? = A.heap[k]?
  same : ∀ (k : Nat) (c : Array Value) (e : TypeId) (fz : Nat × Nat), ¬ T0 e → A.heap[k]? = some (.cells c e fz) → B.heap[k]? = some (.cells c e fz)
  kind : ∀ (k : Nat) (o : Obj), k < D → mut' k → A.heap[k]? = some o → o.isCells = false → ∃ o', B.heap[k]? = some o' ∧ o'.isCells = false
theorem ItselfM.of {T0 D} {mut' : Nat → Prop} {A B : World} (h : Itself T0 D A B) : ItselfM T0 D mut' A B := ⟨h.os, h.tape, h.output, h.size, fun k hk _ => h.below k hk, h.same, fun k o hk _ ho hc => ⟨o, (h.below k hk).trans ho, hc⟩⟩
theorem ItselfM.refl (T0 D mut') (A : World) : ItselfM T0 D mut' A A := ⟨rfl, rfl, rfl, Nat.le_refl _, fun _ _ _ => rfl, fun _ _ _ _ _ h => h, fun k o _ _ ho hc => ⟨o, ho, hc⟩⟩
theorem ItselfM.trans {T0 D mut'} {A B C : World} (h : ItselfM T0 D mut' A B) (k : ItselfM T0 D mut' B C) : ItselfM T0 D mut' A C :=
  ⟨k.os.trans h.os, k.tape.trans h.tape, k.output.trans h.output, Nat.le_trans h.size k.size, fun i hi hn => (k.below i hi hn).trans (h.below i hi hn), fun i c e fz he hi => k.same i c e fz he (h.same i c e fz he hi), fun i o hi hm ho hc => by
    obtain ⟨o', h1, h2⟩ := h.kind i o hi hm ho hc
    exact k.kind i o' hi hm h1 h2⟩
theorem ItselfM.mono {T0 T0' : TypeId → Prop} {D D' : Nat} {m m' : Nat → Prop} {A B : World} (h : ItselfM T0 D m A B) (hT : ∀ e, T0 e → T0' e) (hD : D' ≤ D) (hm : ∀ k, k < D' → m k → m' k) : ItselfM T0' D' m' A B :=
  ⟨h.os, h.tape, h.output, h.size, fun k hk hn => h.below k (by omega) (fun x => hn (hm k hk x)), fun k c e fz he => h.same k c e fz (fun x => he (hT e x)), fun k o hk _ ho hc => by
    by_cases hmk : m k
    · exact h.kind k o (by omega) hmk ho hc
    · exact ⟨o, (h.below k (by omega) hmk).trans ho, hc⟩⟩
/-- Where the shared blocks are one's own (from D on), they are as all else that one turns. -/
theorem ItselfM.own {T0 : TypeId → Prop} {D D' : Nat} {m : Nat → Prop} {A B : World} (h : ItselfM T0 D m A B) (hD : D' ≤ D) (hm : ∀ k, m k → D' ≤ k) : Itself T0 D' A B :=
  ⟨h.os, h.tape, h.output, h.size, fun k hk => h.below k (by omega) (fun x => by have := hm k x; omega), h.same⟩
theorem ItselfM.boxed {T0 D m} {A B : World} (h : ItselfM T0 D m A B) {k : Nat} {t : TypeId} {v : Value} (hb : Boxed A k t v) (hp : (k < D ∧ ¬ m k) ∨ ¬ T0 t) : Boxed B k t v := by
  rcases hp with hp | hp
  · exact (h.below k hp.1 hp.2).trans hb
  · exact h.same k _ _ _ hp hb
/-- A map that is shared is turned. -/
theorem ItselfM.putObj (T0) {D : Nat} {m : Nat → Prop} (W : World) (l : Nat) (o o' : Obj) (hD : m l ∨ D ≤ l) (hl : W.heap[l]? = some o) (ho : o.isCells = false) (ho' : o'.isCells = false) : ItselfM T0 D m W (W.putObj l o') :=
  ⟨rfl, rfl, rfl, by simp, fun k hk hn => World.putObj_heap_other (by rintro rfl; rcases hD with h | h; { exact hn h }; omega), fun k c e fz _ hk => by
    by_cases e2 : k = l
    · subst e2; rw [hl] at hk; cases hk; cases ho
    · exact (World.putObj_heap_other e2).trans hk, fun k oo hk hm h1 h2 => by
    by_cases e2 : k = l
    · subst e2; exact ⟨o', World.putObj_heap_same (Array.getElem?_eq_some_iff.1 hl).1, ho'⟩
    · exact ⟨oo, (World.putObj_heap_other e2).trans h1, h2⟩⟩

/-- The iterator g, as in 'Iter': it turns the blocks of 'mut' too; behind the whole walk E holds. -/
def IterM {α : Type} (P : Program) (g : Nat) (lb : Array Value) (encs : α → Array Value) (T0 : TypeId → Prop) (cap mut' : Nat → Prop) (capW : World → Prop)
    (step : List α → α → Prop) (S Sp : List α → Prop) (E : World → Prop) : Prop :=
  ∀ (l : Nat) (T : TypeId → Prop) (J Jx : List α → World → Prop) (W : World), capW W → (∀ e, T e → ¬ T0 e) →
    (∀ s A B, J s A → ItselfM T0 W.heap.size mut' A B → J s B) → (∀ s A B, Jx s A → ItselfM T0 W.heap.size mut' A B → Jx s B) →
    (∀ pre x W1, J pre W1 → step pre x → YieldAt Fence.wide 0 P l (encs x) W1 fun e W' =>
      Keeps T cap W.heap.size W1 W' ∧ ((e = .returned (.bool true) ∧ J (pre ++ [x]) W') ∨ (e = .returned (.bool false) ∧ Jx (pre ++ [x]) W'))) →
    J [] W →
    Calls P g (#[.func (.yield l) #[] #[]] ++ lb) W fun e W' => (∃ v, e = .returned v) ∧ ((∃ xs, S xs ∧ J xs W' ∧ E W') ∨ (∃ pre, Sp pre ∧ Jx pre W'))
/-- One that shares nothing. -/
theorem Iter.toM {α : Type} {P : Program} {g : Nat} {lb : Array Value} {encs : α → Array Value} {T0 : TypeId → Prop} {cap : Nat → Prop} {capW : World → Prop} {step : List α → α → Prop} {S Sp : List α → Prop}
    (h : Iter P g lb encs T0 cap capW step S Sp) : IterM P g lb encs T0 cap (fun _ => False) capW step S Sp (fun _ => True) := by
  intro l T J Jx W hc hT hJ hJx hY h0
  refine (h l T J Jx W hc hT (fun s A B hs hi => hJ s A B hs (ItselfM.of hi)) (fun s A B hs hi => hJx s A B hs (ItselfM.of hi)) hY h0).mono ?_
  rintro e W' ⟨hv, (⟨xs, h1, h2⟩ | h1)⟩
  · exact ⟨hv, .inl ⟨xs, h1, h2, trivial⟩⟩
  · exact ⟨hv, .inr h1⟩
variable {n : Nat} {P : Program}

set_option maxHeartbeats 1000000 in
/-- The statement 'for .. := range g { .. }' outside of any round. -/
theorem wpIn_rangeIterM {α : Type} {g : Operand} {ps : Array Tmp} {assign body : Code} {Q : Exit → Act → World → Prop} {a : Act} {w : World}
    {gf : Nat} {lb : Array Value} (hg : a.eval g = .func (.func gf) #[] lb) (eg : ∀ args w, (callFunc gf args).run P w = .ok (.enter gf args) w)
    {encs : α → Array Value} {T0 : TypeId → Prop} {cap mut' : Nat → Prop} {capW : World → Prop} {step : List α → α → Prop} {S Sp : List α → Prop} {E : World → Prop}
    (hit : IterM P gf lb encs T0 cap mut' capW step S Sp E) (hmut : ∀ k, mut' k → k < w.heap.size) (hE : ∀ A B l, w.heap.size ≤ l → E A → (∀ k, k ≠ l → B.heap[k]? = A.heap[k]?) → E B) (T : TypeId → Prop) (hT : ∀ e, T e → ¬ T0 e) (hps : ∀ x, (encs x).size = ps.size)
    (hcap : ∀ k, cap k → k < w.heap.size) (hcW : ∀ W, Below w.heap.size w W → capW W)
    (I : List α → World → Prop) (Ix : Code → List α → World → Prop)
    (hI : ∀ s A B, I s A → ItselfM T0 w.heap.size mut' A B → I s B) (hIx : ∀ c s A B, Ix c s A → ItselfM T0 w.heap.size mut' A B → Ix c s B) (h0 : I [] w)
    (hround : ∀ (l : Nat) (pre : List α) (x : α) (W : World), w.heap.size ≤ l → (∃ r, W.heap[l]? = some (.loop r)) → I pre W → step pre x →
      assign.wpIn (Fence.wide.inRound l) 0 P (Exit.then (fun a₁ W₁ => Keeps T cap w.heap.size W W₁ ∧ (∀ W₂, Itself T0 w.heap.size W₁ W₂ → W₂.heap.size = W₁.heap.size → (∃ r, W₂.heap[l]? = some (.loop r)) →
        (∀ k, k ≠ l → W₂.heap[k]? = W₁.heap[k]?) → body.wpIn (Fence.wide.inRound l) 0 P (bodyOf T cap w.heap.size I Ix (pre ++ [x]) W₂) a₁ W₂)) (fun _ _ _ => False))
        { tmps := (ps.zip (encs x)).foldl (fun t (p, v) => t.setIfInBounds p v) a.tmps, defers := [] } W)
    (hdone : ∀ (D : Nat) (xs : List α) (W : World), w.heap.size ≤ D → S xs → I xs W → E W → W.heap[D]? = some (.deferred (some [])) → Q .normal { a with defers := { target := .collected D, args := #[] } :: a.defers } W)
    (hstop : ∀ (D : Nat) (c : Code) (pre : List α) (W : World), w.heap.size ≤ D → Sp pre → Ix c pre W → W.heap[D]? = some (.deferred (some [])) →
      c.wpIn Fence.wide n P Q { a with defers := { target := .collected D, args := #[] } :: a.defers } W) :
    (Code.rangeFunc g ps assign body).wpIn Fence.wide n P Q a w := by
  refine wpIn_rangeFunc fun fn hfn => ?_
  obtain ⟨rec, hrec⟩ : ∃ rec : LoopState → Option Code → Loop, rec = fun st pe => { state := st, pending := pe, fn, tmps := a.tmps, params := ps, assign, body, defers := w.heap.size } := ⟨_, rfl⟩
  obtain ⟨W1, hW1⟩ : ∃ W1, (w.alloc (.deferred (some []))).alloc (.loop (rec .ready none)) = W1 := ⟨_, rfl⟩
  have hsz : W1.heap.size = w.heap.size + 2 := by rw [← hW1]; simp
  have hI01 : Itself T0 w.heap.size w W1 := by
    rw [← hW1]; exact (Itself.alloc T0 w _ (Nat.le_refl _)).trans (Itself.alloc T0 _ _ (by simp))
  have hL1 : W1.heap[w.heap.size + 1]? = some (.loop (rec .ready none)) := by
    rw [← hW1]; have := World.alloc_heap_new (w.alloc (.deferred (some []))) (.loop (rec .ready none)); rwa [World.size_alloc] at this
  have hK1 : W1.heap[w.heap.size]? = some (.deferred (some [])) := by
    rw [← hW1]; exact (Below.heap_alloc _ _ _ (by simp)).trans (World.alloc_heap_new w _)
  refine ⟨w.heap.size + 1, [{ target := .collected w.heap.size, args := #[] }], W1, { target := .fn (.func gf) lb, args := #[.func (.yield (w.heap.size + 1)) #[] #[]] }, W1, gf,
    #[.func (.yield (w.heap.size + 1)) #[] #[]] ++ lb, W1, ?_, ?_, fun _ _ => trivial, ?_, (fun h => by cases h), ?_⟩
  · rw [← hW1, hrec]; exact run_enterLoop_outer _ _ _ _ _
  · simp only [resolve, hg]
    simp [go_sem]
  · simp [invoke, go_sem, eg]
  refine callsIn_wide.2 ((hit (w.heap.size + 1) T
      (fun pre W => I pre W ∧ W.heap[w.heap.size + 1]? = some (.loop (rec .ready none)) ∧ W.heap[w.heap.size]? = some (.deferred (some [])))
      (fun pre W => ∃ c, Ix c pre W ∧ W.heap[w.heap.size + 1]? = some (.loop (rec .done (some c))) ∧ W.heap[w.heap.size]? = some (.deferred (some [])))
      W1 (hcW _ hI01.toBelow) hT ?_ ?_ ?_ ⟨hI _ _ _ h0 (ItselfM.of hI01), hL1, hK1⟩).mono ?_)
  · rintro s A B ⟨h1, h2, h3⟩ hAB
    rw [hsz] at hAB
    exact ⟨hI _ _ _ h1 (hAB.mono (fun _ h => h) (by omega) (fun _ _ h => h)), (hAB.below _ (by omega) (fun x => by have := hmut _ x; omega)).trans h2, (hAB.below _ (by omega) (fun x => by have := hmut _ x; omega)).trans h3⟩
  · rintro s A B ⟨c, h1, h2, h3⟩ hAB
    rw [hsz] at hAB
    exact ⟨c, hIx c _ _ _ h1 (hAB.mono (fun _ h => h) (by omega) (fun _ _ h => h)), (hAB.below _ (by omega) (fun x => by have := hmut _ x; omega)).trans h2, (hAB.below _ (by omega) (fun x => by have := hmut _ x; omega)).trans h3⟩
  · -- one round
    rintro pre x W ⟨hi, hl, hk⟩ hst
    have hy := run_yield (P := P) (args := encs x) hl (by rw [hrec]; exact hps x)
    rw [hrec] at hy
    refine ⟨fn, _, assign, body, hy, roundIn_of_wpIn hfn (wpIn_mono (hround _ pre x W (by omega) ⟨_, hl⟩ hi hst) ?_)⟩
    rintro e a₁ Wa hq
    cases e with
    | normal =>
      obtain ⟨hka, hnext⟩ := hq
      have hnc : ¬ cap (w.heap.size + 1) := fun h => by have := hcap _ h; omega
      have hkeep : ∀ {X Y : World}, Keeps T cap w.heap.size X Y → X.heap[w.heap.size]? = some (.deferred (some [])) → Y.heap[w.heap.size]? = some (.deferred (some [])) :=
        fun h h' => h.same _ _ h' (.inr ⟨Nat.le_refl _, fun _ _ _ _ e => by cases e⟩)
      have hkeepL : ∀ {X Y : World} {r : Loop}, Keeps T cap w.heap.size X Y → X.heap[w.heap.size + 1]? = some (.loop r) → Y.heap[w.heap.size + 1]? = some (.loop r) :=
        fun h h' => h.same _ _ h' (.inr ⟨by omega, fun _ _ _ _ e => by cases e⟩)
      have hl1 := hkeepL hka hl
      have hk1 := hkeep hka hk
      refine ⟨_, run_beginRound hl1 (by rw [hrec]), ?_⟩
      have hlt : w.heap.size + 1 < Wa.heap.size := (Array.getElem?_eq_some_iff.1 hl1).1
      have hit2 : Itself T0 w.heap.size Wa (Wa.putObj (w.heap.size + 1) (.loop { rec .ready none with state := .busy })) := Itself.putObj T0 Wa _ _ _ (by omega) hl1 rfl
      have hl2 : (Wa.putObj (w.heap.size + 1) (.loop { rec .ready none with state := .busy })).heap[w.heap.size + 1]? = some (.loop { rec .ready none with state := .busy }) := World.putObj_heap_same hlt
      have hk2 : (Wa.putObj (w.heap.size + 1) (.loop { rec .ready none with state := .busy })).heap[w.heap.size]? = some (.deferred (some [])) := (World.putObj_heap_other (by omega)).trans hk1
      have hkp : ∀ {X : World} (o' : Obj), Keeps T cap W1.heap.size X (X.putObj (w.heap.size + 1) o') := fun o' => Keeps.putObj T _ _ o' hnc (by omega)
      have hup : ∀ {X Y : World}, Keeps T cap w.heap.size X Y → Keeps T cap W1.heap.size X Y := fun h => h.mono (fun _ h => h) (by omega) (fun _ _ _ h => .inl h)
      have hkW2 : Keeps T cap W1.heap.size W (Wa.putObj (w.heap.size + 1) (.loop { rec .ready none with state := .busy })) := (hup hka).trans (hkp _)
      -- the body's premise speaks of blocks from w.heap.size on: the record itself is turned by the round's beginning: told apart
      have fin : ∀ (jump : Option Code) (W3 : World), Keeps T cap w.heap.size (Wa.putObj (w.heap.size + 1) (.loop { rec .ready none with state := .busy })) W3 →
          (Instr.endRound (w.heap.size + 1) jump).run P W3 = .ok (.bool jump.isNone) (W3.putObj (w.heap.size + 1) (.loop (rec (if jump.isNone then .ready else .done) jump))) ∧
          Itself T0 w.heap.size W3 (W3.putObj (w.heap.size + 1) (.loop (rec (if jump.isNone then .ready else .done) jump))) ∧
          (W3.putObj (w.heap.size + 1) (.loop (rec (if jump.isNone then .ready else .done) jump))).heap[w.heap.size + 1]? = some (.loop (rec (if jump.isNone then .ready else .done) jump)) ∧
          (W3.putObj (w.heap.size + 1) (.loop (rec (if jump.isNone then .ready else .done) jump))).heap[w.heap.size]? = some (.deferred (some [])) ∧
          Keeps T cap W1.heap.size W (W3.putObj (w.heap.size + 1) (.loop (rec (if jump.isNone then .ready else .done) jump))) := fun jump W3 hk3 => by
        have hl3 := hkeepL hk3 hl2
        have hk3' := hkeep hk3 hk2
        have he := run_endRound (P := P) jump hl3
        rw [hrec] at he ⊢
        refine ⟨he, Itself.putObj T0 W3 _ _ _ (by omega) hl3 rfl, World.putObj_heap_same (Array.getElem?_eq_some_iff.1 hl3).1, (World.putObj_heap_other (by omega)).trans hk3', ?_⟩
        have := (hkW2.trans (hup hk3)).trans (hkp (X := W3) (.loop (rec (if jump.isNone then .ready else .done) jump)))
        rw [hrec] at this
        exact this
      refine wpIn_mono (hnext _ hit2 (by simp) ⟨_, hl2⟩ (fun k hk => World.putObj_heap_other hk)) ?_
      · rintro e a3 W3 hp
        cases e with
        | normal =>
          obtain ⟨hk3, hi3⟩ := hp
          obtain ⟨hr, hits, hl4, hk4, hkk⟩ := fin none W3 hk3
          exact ⟨_, _, hr, hkk, .inl ⟨rfl, hI _ _ _ hi3 (ItselfM.of hits), hl4, hk4⟩⟩
        | ret =>
          obtain ⟨hk3, hi3⟩ := hp
          obtain ⟨hr, hits, hl4, hk4, hkk⟩ := fin (some .ret) W3 hk3
          exact ⟨_, _, hr, hkk, .inr ⟨rfl, .ret, hIx _ _ _ _ hi3 (ItselfM.of hits), hl4, hk4⟩⟩
        | exit id =>
          obtain ⟨hk3, hi3⟩ := hp
          obtain ⟨hr, hits, hl4, hk4, hkk⟩ := fin (some (.exit id)) W3 hk3
          exact ⟨_, _, hr, hkk, .inr ⟨rfl, .exit id, hIx _ _ _ _ hi3 (ItselfM.of hits), hl4, hk4⟩⟩
        | goto t =>
          obtain ⟨hk3, hi3⟩ := hp
          obtain ⟨hr, hits, hl4, hk4, hkk⟩ := fin (some (.goto t)) W3 hk3
          exact ⟨_, _, hr, hkk, .inr ⟨rfl, .goto t, hIx _ _ _ _ hi3 (ItselfM.of hits), hl4, hk4⟩⟩
        | panic ch => exact hp.elim
        | outgrown => exact hp.elim
    | exit id => exact hq.elim
    | goto t => exact hq.elim
    | ret => exact hq.elim
    | panic ch => exact hq.elim
    | outgrown => exact hq.elim
  · rintro e W2 ⟨⟨v, rfl⟩, (⟨xs, hS, ⟨hi, hl, hk⟩, hEW⟩ | ⟨pre, hSp, c, hi, hl, hk⟩)⟩
    · refine ⟨none, _, by have := run_endLoop (P := P) hl (by rw [hrec]; simp); rw [hrec] at this; exact this, ?_⟩
      exact hdone _ xs _ (Nat.le_refl _) hS (hI _ _ _ hi (ItselfM.of (Itself.putObj T0 W2 _ _ _ (by omega) hl rfl))) (hE _ _ (w.heap.size + 1) (by omega) hEW (fun k hk => World.putObj_heap_other hk)) ((World.putObj_heap_other (by omega)).trans hk)
    · refine ⟨some c, _, by have := run_endLoop (P := P) hl (by rw [hrec]; simp); rw [hrec] at this; exact this, ?_⟩
      exact hstop _ c pre _ (Nat.le_refl _) hSp (hIx c _ _ _ hi (ItselfM.of (Itself.putObj T0 W2 _ _ _ (by omega) hl rfl))) ((World.putObj_heap_other (by omega)).trans hk)
end Go.Proofs.YtdpmnmiimfhlhaaGreatDoor

/-
  Readers of texts, as lists of bytes: what a reader has left, and whether it gave up; what it answers.
-/
import Derived.Test.YtkmhdaalabhcbaaDoorBase
import Derived.Test.YtkmhdaalabhcbaaDoorNumP
import Derived.LoopTactic
import Derived.Deep.LoopGhost
import Derived.OwnWalk
import Derived.Lib.Strings
set_option linter.unusedVariables false
set_option linter.unusedSimpArgs false
namespace Go.Proofs.YtkmhdaalabhcbaaDoor
open Go Go.RowKit

def txt (l : List UInt8) : ByteArray := ⟨l.toArray⟩
theorem txt_append (a b : List UInt8) : txt a ++ txt b = txt (a ++ b) := by
  apply ByteArray.ext; simp [txt]
theorem txt_data (s : ByteArray) : txt s.data.toList = s := by cases s; simp [txt]
theorem data_txt (l : List UInt8) : (txt l).data.toList = l := by simp [txt]
theorem txt_size (l : List UInt8) : (txt l).size = l.length := by simp [txt, ByteArray.size]
theorem txt_inj {a b : List UInt8} (h : txt a = txt b) : a = b := by rw [← data_txt a, h, data_txt]
theorem ba_len (s : ByteArray) : s.data.toList.length = s.size := by rw [Array.length_toList]; rfl
theorem extract_txt {s : ByteArray} {a b : Nat} {l : List UInt8} (h : (s.data.toList.take b).drop a = l) : s.extract a b = txt l := by
  apply ByteArray.ext
  apply Array.ext'
  subst h
  rw [Lib.extract_data]
  simp [txt, List.drop_take]
theorem ext_take (l : List UInt8) {k : Nat} : (txt l).extract 0 k = txt (l.take k) := extract_txt (by rw [data_txt]; rfl)
theorem ext_drop (l : List UInt8) {k n : Nat} (hn : n = l.length) : (txt l).extract k n = txt (l.drop k) := extract_txt (by rw [data_txt, hn, List.take_of_length_le (Nat.le_refl _)])
theorem ext_mid (l : List UInt8) {a b : Nat} : (txt l).extract a b = txt ((l.take b).drop a) := extract_txt (by rw [data_txt])
theorem at_txt {l : List UInt8} {k : Nat} (h : k < l.length) : (txt l)[k]'(by rw [txt_size]; exact h) = l[k] := by
  show l.toArray[k] = _
  simp
theorem head_eq {s : ByteArray} (h : 0 < s.size) : s.data.toList.head? = some s[0] := by
  rw [List.head?_eq_getElem?]
  show s.data.toList[0]? = some (s.data[0]'h)
  rw [Array.getElem?_toList]; exact Array.getElem?_eq_getElem h
theorem drop_eq {s : ByteArray} {k : Nat} (h : k < s.size) : s.data.toList.drop k = s[k] :: s.data.toList.drop (k + 1) := by
  rw [List.drop_eq_getElem_cons (by rw [ba_len]; exact h)]; rfl
theorem numV_cons (a : Nat) (c : UInt8) (r : List UInt8) : numV a (c :: r) = if dig c then numV (10 * a + (c.toNat - 48)) r else none := rfl
theorem ret_s {a b : ByteArray} (h : a = b) : Ending.returned (.string a) = .returned (.string b) := by rw [h]
theorem ret_b {a b : Bool} (h : a = b) : Ending.returned (.bool a) = .returned (.bool b) := by rw [h]
theorem isEmpty_txt' (l : List UInt8) : (txt l).toList.isEmpty = l.isEmpty := by
  rw [ByteArray.toList_eq, data_txt]

/-! Blocks of cells. -/
def Cells (W : World) (B : Nat) (t : TypeId) (cur : Array Value) : Prop := W.heap[B]? = some (.cells cur t (0, 0))
theorem Cells.lt {W : World} {B : Nat} {t : TypeId} {cur : Array Value} (h : Cells W B t cur) : B < W.heap.size := (Array.getElem?_eq_some_iff.1 h).1
theorem Cells.cell {W : World} {B : Nat} {t : TypeId} {cur : Array Value} (h : Cells W B t cur) {i : Nat} {v : Value} (hi : cur[i]? = some v) : W.cell? ⟨B, i, none⟩ = some v := by
  have h' : W.heap[B]? = _ := h
  simp [World.cell?, h', hi]
theorem Cells.frozen {W : World} {B : Nat} {t : TypeId} {cur : Array Value} (h : Cells W B t cur) (i : Nat) : W.frozen? ⟨B, i, none⟩ = false := by
  have h' : W.heap[B]? = _ := h
  simp [World.frozen?, h']
theorem Cells.set {W : World} {B : Nat} {t : TypeId} {cur : Array Value} (h : Cells W B t cur) (i : Nat) (v : Value) : Cells (W.setCell ⟨B, i, none⟩ v) B t (cur.setIfInBounds i v) := by
  obtain ⟨hlt, hk⟩ := Array.getElem?_eq_some_iff.1 h
  show (W.heap.modify B _)[B]? = _
  rw [Array.getElem?_eq_getElem (by rw [Array.size_modify]; exact hlt), Array.getElem_modify_self, hk]
  rfl
theorem Cells.later {W W' : World} {B : Nat} {t : TypeId} {cur : Array Value} (h : Cells W B t cur) (hb : W'.heap[B]? = W.heap[B]?) : Cells W' B t cur := hb.trans h
theorem size_setCell (W : World) (a : Addr) (v : Value) : (W.setCell a v).heap.size = W.heap.size := by show (W.heap.modify _ _).size = _; rw [Array.size_modify]

/-- Of what was there, one block alone may turn. -/
structure Tk (g : Nat) (w w' : World) : Prop where
  os : w'.os = w.os
  tape : w'.tape = w.tape
  output : w'.output = w.output
  size : w.heap.size ≤ w'.heap.size
  blk : ∀ k, k < w.heap.size → k ≠ g → w'.heap[k]? = w.heap[k]?
theorem Tk.refl (g : Nat) (w : World) : Tk g w w := ⟨rfl, rfl, rfl, Nat.le_refl _, fun _ _ _ => rfl⟩
theorem Tk.trans {g : Nat} {a b c : World} (h : Tk g a b) (h' : Tk g b c) : Tk g a c :=
  ⟨h'.os.trans h.os, h'.tape.trans h.tape, h'.output.trans h.output, Nat.le_trans h.size h'.size, fun k hk hg => (h'.blk k (Nat.lt_of_lt_of_le hk h.size) hg).trans (h.blk k hk hg)⟩
theorem Tk.of_below {g : Nat} {a b : World} (h : Below a.heap.size a b) : Tk g a b := ⟨h.os, h.tape, h.output, h.size, fun k hk _ => h.block k hk⟩
theorem Tk.below {g B : Nat} {a b : World} (h : Tk g a b) (hB : B ≤ g) (hs : B ≤ a.heap.size) : Below B a b := ⟨h.os, h.tape, h.output, h.size, fun k hk => h.blk k (by omega) (by omega)⟩
theorem Tk.drewN {g : Nat} {a b : World} (h : Tk g a b) (n : Nat) : Tk g a (b.drewN n) := ⟨h.os, h.tape, h.output, h.size, h.blk⟩
theorem Tk.alloc {g : Nat} {a b : World} (h : Tk g a b) (o : Obj) : Tk g a (b.alloc o) := h.trans (Tk.of_below ((Below.refl _ b).alloc (Nat.le_refl _) o))
theorem Tk.set {g : Nat} (a : World) (i : Nat) (v : Value) : Tk g a (a.setCell ⟨g, i, none⟩ v) := ⟨rfl, rfl, rfl, by rw [size_setCell]; exact Nat.le_refl _, fun k _ hk => Below.heap_setCell a ⟨g, i, none⟩ v k hk⟩

/-! What a reader answers. -/
structure RS where
  l : List UInt8
  f : Bool
def RS.gone : RS := ⟨[], true⟩
def RS.Ok (s : RS) : Prop := s.f = true → s.l = []
theorem gone_ok : RS.gone.Ok := fun _ => rfl
def atomB (c : UInt8) : Bool := decide (32 < c.toNat) && (decide (c.toNat ≤ 126) && !([40, 41, 123, 37, 42, 34, 92, 93] : List UInt8).contains c)
def digB (c : UInt8) : Bool := decide (48 ≤ c.toNat) && decide (c.toNat ≤ 57)
def upB (c : UInt8) : UInt8 := if 97 ≤ c.toNat ∧ c.toNat ≤ 122 then UInt8.ofNat (c.toNat - 32) else c
theorem upB_toNat (c : UInt8) : (upB c).toNat = if 97 ≤ c.toNat ∧ c.toNat ≤ 122 then c.toNat - 32 else c.toNat := by
  unfold upB; split
  · rw [UInt8.toNat_ofNat']; have := c.toNat_lt; omega
  · rfl
def wordB (s : RS) (w : List UInt8) : Bool := !s.f && (decide (w.length ≤ s.l.length) && ((s.l.take w.length).map upB == w.map upB))
def wordS (s : RS) (w : List UInt8) : RS := if wordB s w then ⟨s.l.drop w.length, false⟩ else s
def mustS (s : RS) (w : List UInt8) : RS := if wordB s w then ⟨s.l.drop w.length, false⟩ else .gone
def skipS (p : UInt8 → Bool) (s : RS) : RS := ⟨s.l.dropWhile p, s.f⟩
def atomV (s : RS) : List UInt8 := s.l.takeWhile atomB
def atomS (s : RS) : RS := if s.l.takeWhile atomB = [] then .gone else ⟨s.l.dropWhile atomB, s.f⟩
def numO (s : RS) : Option Nat := numR (s.l.takeWhile digB) 4294967295
def numN (s : RS) : Nat := (numO s).getD 0
def numS (s : RS) : RS := if (numO s).isSome then ⟨s.l.dropWhile digB, s.f⟩ else .gone
/-- Ahead of a literal's bytes: what is left, its number. -/
def litH (s : RS) : RS := mustS (numS (mustS s [123])) [125, 13, 10]
def litN (s : RS) : Nat := numN (mustS s [123])
def litB (s : RS) : Bool := !(litH s).f && (decide (litN s ≤ 65536) && decide (litN s ≤ (litH s).l.length))
def litV (s : RS) : List UInt8 := if litB s then (litH s).l.take (litN s) else []
def litS (s : RS) : RS := if litB s then ⟨(litH s).l.drop (litN s), false⟩ else .gone
/-- Behind the first sign of a quoted text: its bytes, what stands behind it. -/
def qd : List UInt8 → Option (List UInt8 × List UInt8)
  | [] => none
  | c :: r => if c = 34 then some ([], r) else if c = 13 ∨ c = 10 then none else if c = 92 then
      match r with
      | [] => none
      | d :: r' => if d = 34 ∨ d = 92 then (qd r').map fun x => (d :: x.1, x.2) else none
    else (qd r).map fun x => (c :: x.1, x.2)
def strV (s : RS) : List UInt8 := if s.l.head? = some 34 then ((qd s.l.tail).map (·.1)).getD [] else if s.l.head? = some 123 then litV s else atomV s
def strS (s : RS) : RS := if s.l.head? = some 34 then (match qd s.l.tail with | some x => ⟨x.2, s.f⟩ | none => .gone) else if s.l.head? = some 123 then litS s else atomS s
def nextB (s : RS) (c : UInt8) : Bool := s.l.head? == some c

theorem RS.Ok.skip {s : RS} (h : s.Ok) (p : UInt8 → Bool) : (skipS p s).Ok := fun hf => by
  have := h hf; unfold skipS; dsimp only; rw [this]; rfl
theorem RS.Ok.must {s : RS} (h : s.Ok) (w : List UInt8) : (mustS s w).Ok := by
  unfold mustS; split
  · intro hf; cases hf
  · exact gone_ok
theorem RS.Ok.word {s : RS} (h : s.Ok) (w : List UInt8) : (wordS s w).Ok := by
  unfold wordS; split
  · intro hf; cases hf
  · exact h
theorem RS.Ok.atom {s : RS} (h : s.Ok) : (atomS s).Ok := by
  unfold atomS; split
  · exact gone_ok
  · exact h.skip atomB
theorem RS.Ok.num {s : RS} (h : s.Ok) : (numS s).Ok := by
  unfold numS; split
  · exact h.skip digB
  · exact gone_ok
theorem RS.Ok.lit {s : RS} (h : s.Ok) : (litS s).Ok := by
  unfold litS; split
  · intro hf; cases hf
  · exact gone_ok
theorem RS.Ok.str {s : RS} (h : s.Ok) : (strS s).Ok := by
  unfold strS
  split
  · rename_i hh
    have hf : s.f = false := by
      cases hf : s.f with
      | false => rfl
      | true => rw [h hf] at hh; cases hh
    split
    · intro hq; dsimp only at hq; rw [hf] at hq; cases hq
    · exact gone_ok
  · split
    · exact h.lit
    · exact h.atom
theorem drop_le {α : Type} (p : α → Bool) (l : List α) : (l.dropWhile p).length ≤ l.length := (List.dropWhile_sublist p).length_le
theorem must_le (s : RS) (w : List UInt8) : (mustS s w).l.length ≤ s.l.length := by
  unfold mustS; split
  · simp
  · exact Nat.zero_le _
theorem word_le (s : RS) (w : List UInt8) : (wordS s w).l.length ≤ s.l.length := by
  unfold wordS; split
  · simp
  · exact Nat.le_refl _
theorem num_le (s : RS) : (numS s).l.length ≤ s.l.length := by
  unfold numS; split
  · exact drop_le _ _
  · exact Nat.zero_le _
theorem atom_le (s : RS) : (atomS s).l.length ≤ s.l.length := by
  unfold atomS; split
  · exact Nat.zero_le _
  · exact drop_le _ _
theorem litH_le (s : RS) : (litH s).l.length ≤ s.l.length := Nat.le_trans (must_le _ _) (Nat.le_trans (num_le _) (must_le _ _))
theorem lit_le (s : RS) : (litS s).l.length ≤ s.l.length := by
  unfold litS; split
  · have := litH_le s; simp; omega
  · exact Nat.zero_le _
theorem qd_le : ∀ (n : Nat) (l : List UInt8), l.length ≤ n → ∀ x, qd l = some x → x.2.length ≤ l.length ∧ x.1.length ≤ l.length := by
  intro n
  induction n with
  | zero => intro l hl x h; obtain rfl : l = [] := List.length_eq_zero_iff.1 (by omega); cases h
  | succ n ih =>
    intro l hl x h
    match l, h with
    | c :: r, h =>
      rw [List.length_cons] at hl ⊢
      unfold qd at h
      split at h
      · cases h; simp
      · split at h
        · cases h
        · split at h
          · match r, h with
            | [], h => cases h
            | d :: r', h =>
              dsimp only at h
              split at h
              · obtain ⟨y, hy, rfl⟩ := Option.map_eq_some_iff.1 h
                rw [List.length_cons] at hl
                have := ih r' (by omega) y hy
                dsimp only; simp; omega
              · cases h
          · obtain ⟨y, hy, rfl⟩ := Option.map_eq_some_iff.1 h
            have := ih r (by omega) y hy
            dsimp only; simp; omega
theorem str_le (s : RS) : (strS s).l.length ≤ s.l.length := by
  unfold strS
  split
  · split
    · rename_i x hx
      have := (qd_le _ _ (Nat.le_refl _) x hx).1
      have h2 : s.l.tail.length ≤ s.l.length := by simp
      dsimp only; omega
    · exact Nat.zero_le _
  · split
    · exact lit_le s
    · exact atom_le s
end Go.Proofs.YtkmhdaalabhcbaaDoor

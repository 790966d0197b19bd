/-
  Rows of bytes that a conversion laid; a text of one byte.
-/
import Derived.Test.YtkmhdaalabhcbaaDoorTk1
import Derived.Lib.ConvBytes
import Derived.Lib.SmallJoins
import Derived.Laws.IdiomStrings
import Derived.MapKept
set_option linter.unusedVariables false
set_option linter.unusedSimpArgs false
namespace Go.Proofs.YtkmhdaalabhcbaaDoor
open Go Go.RowKit

/-- A row of bytes that a conversion laid, as it now is. -/
def BytesAt (W : World) (b : Nat) (l : List UInt8) : Prop := ∃ cur : Array Value, W.heap[b]? = some (.cells cur 5 (cur.size, cur.size + 1)) ∧ ∀ (j : Nat) (c : UInt8), l[j]? = some c → cur[j]? = some (Value.int .u8 (c.toNat : Int))
theorem BytesAt.lt {W : World} {b : Nat} {l : List UInt8} (h : BytesAt W b l) : b < W.heap.size := by
  obtain ⟨cur, hc, _⟩ := h
  exact (Array.getElem?_eq_some_iff.1 hc).1
theorem BytesAt.cell {W : World} {b : Nat} {l : List UInt8} (h : BytesAt W b l) {j : Nat} {c : UInt8} (hj : l[j]? = some c) : W.cell? ⟨b, j, none⟩ = some (.int .u8 (c.toNat : Int)) ∧ W.frozen? ⟨b, j, none⟩ = false := by
  obtain ⟨cur, hc, hl⟩ := h
  have h1 := hl j c hj
  have h2 : j < cur.size := (Array.getElem?_eq_some_iff.1 h1).1
  refine ⟨by simp [World.cell?, hc, h1], ?_⟩
  simp [World.frozen?, hc]
  omega
theorem BytesAt.set {W : World} {b : Nat} {l : List UInt8} (h : BytesAt W b l) {j : Nat} (hj : j < l.length) (c : UInt8) : BytesAt (W.setCell ⟨b, j, none⟩ (.int .u8 (c.toNat : Int))) b (l.set j c) := by
  obtain ⟨cur, hc, hl⟩ := h
  obtain ⟨hlt, hk⟩ := Array.getElem?_eq_some_iff.1 hc
  refine ⟨cur.setIfInBounds j (.int .u8 (c.toNat : Int)), ?_, fun i d hi => ?_⟩
  · show (W.heap.modify b _)[b]? = _
    rw [Array.getElem?_eq_getElem (by rw [Array.size_modify]; exact hlt), Array.getElem_modify_self, hk]
    simp
  · rw [List.getElem?_set] at hi
    have h2 : j < cur.size := (Array.getElem?_eq_some_iff.1 (hl j l[j] (List.getElem?_eq_getElem hj))).1
    rw [Array.getElem?_setIfInBounds]
    split at hi
    · rename_i hji; subst hji
      obtain rfl : c = d := by simpa [hj] using hi
      simp [h2]
    · rename_i hji
      rw [if_neg hji]
      exact hl i d hi
theorem BytesAt.new (W : World) (l : List UInt8) : BytesAt (Lib.bytesWorld W 5 (txt l)) W.heap.size l := by
  refine ⟨_, Lib.bytesWorld_at_new W 5 (txt l), fun j c hj => ?_⟩
  obtain ⟨hj1, hj2⟩ := List.getElem?_eq_some_iff.1 hj
  have hs : j < (txt l).size := by rw [txt_size]; exact hj1
  have := Lib.bytesWorld_cell W 5 (txt l) j hs
  rw [data_txt, List.getD_eq_getElem?_getD, hj] at this
  simpa [World.cell?, Lib.bytesWorld_at_new] using this
theorem BytesAt.back {W : World} {b : Nat} {l : List UInt8} (h : BytesAt W b l) (cap n : Nat) (hn : l.length = n) : (convert 22 9 (.slice (some ⟨b, 0, none⟩) n cap)).run Tryd.prog W = .ok (.string (txt l)) W := by
  subst hn
  exact run_convert_bytes_back (P := Tryd.prog) W 22 9 5 ⟨b, 0, none⟩ cap l Tryd.underlying22 Tryd.underlying5 Tryd.underlying9 (fun j hj => by
    have h2 := (h.cell (List.getElem?_eq_getElem hj)).1
    rw [Addr.add_lit, Nat.zero_add]; exact h2)

theorem conv1 (w : World) (x : Int) (c : UInt8) (hx : x = c.toNat) :
    (convert 22 9 (.slice (some ⟨w.heap.size, 0, none⟩) 1 1)).run Tryd.prog (w.alloc (.cells #[.int .u8 x] 5)) = .ok (.string ⟨#[c]⟩) (w.alloc (.cells #[.int .u8 x] 5)) := by
  have := run_convert_bytes_back (P := Tryd.prog) (w.alloc (.cells #[.int .u8 x] 5)) 22 9 5 ⟨w.heap.size, 0, none⟩ 1 [c] Tryd.underlying22 Tryd.underlying5 Tryd.underlying9 (by
    intro j hj
    obtain rfl : j = 0 := by simpa using hj
    subst hx
    show World.cell? _ ⟨w.heap.size, 0, none⟩ = _
    unfold World.cell?; rw [heap_alloc_new]; rfl)
  exact this
theorem byte_append (A : ByteArray) (c : UInt8) {l : List UInt8} (h : A = txt l) : A ++ ⟨#[c]⟩ = txt (l ++ [c]) := by
  subst h; exact txt_append l [c]
end Go.Proofs.YtkmhdaalabhcbaaDoor

/-
  Entries and notes of a list, in rows; what a list is behind notes.
-/
import Derived.Test.YtkmhdaalabhcbaaDoorBase
import Derived.BigQuiet
set_option linter.unusedVariables false
set_option linter.unusedSimpArgs false
namespace Go.Proofs.YtkmhdaalabhcbaaDoor
open Go Go.RowKit

/-- A row of elements of k cells each, as it is read. -/
def RowK {α : Type} (k : Nat) (enc : α → List Value) (W : World) (v : Value) (l : List α) : Prop :=
  (v = .slice none 0 0 ∧ l = []) ∨ ∃ ad cap, v = .slice (some ad) l.length cap ∧ ∀ j x, l[j]? = some x → ∃ b off, ad = ⟨b, off, none⟩ ∧ b < W.heap.size ∧
    ∀ i u, (enc x)[i]? = some u → W.cell? ⟨b, off + j * k + i, none⟩ = some u
section
variable {α : Type} {k : Nat} {enc : α → List Value} {W W' : World} {v : Value} {l : List α}
theorem RowK.below (h : RowK k enc W v l) (hb : Below W.heap.size W W') : RowK k enc W' v l := by
  rcases h with h | ⟨ad, cap, rfl, h⟩
  · exact .inl h
  · refine .inr ⟨ad, cap, rfl, fun j r hj => ?_⟩
    obtain ⟨b, off, rfl, hlt, h0⟩ := h j r hj
    exact ⟨b, off, rfl, Nat.lt_of_lt_of_le hlt hb.size, fun i u hi => by rw [hb.cell (p := ⟨b, _, none⟩) hlt]; exact h0 i u hi⟩
theorem RowK.form (h : RowK k enc W v l) : ∃ ad cp, v = .slice ad l.length cp := by
  rcases h with ⟨rfl, rfl⟩ | ⟨ad, cap, rfl, _⟩
  · exact ⟨none, 0, rfl⟩
  · exact ⟨_, _, rfl⟩
theorem RowK.at {ad : Option Addr} {n cp : Nat} (h : RowK k enc W (.slice ad n cp) l) {j : Nat} {r : α} (hj : l[j]? = some r) :
    ∃ b off, ad = some ⟨b, off, none⟩ ∧ b < W.heap.size ∧ ∀ i u, (enc r)[i]? = some u → W.cell? ⟨b, off + j * k + i, none⟩ = some u := by
  rcases h with ⟨_, rfl⟩ | ⟨a, cap, he, h⟩
  · simp at hj
  · obtain ⟨b, off, rfl, h2⟩ := h j r hj
    cases he
    exact ⟨b, off, rfl, h2⟩
def cellsK (enc : α → List Value) (l : List α) : List Value := l.flatMap enc
theorem cellsK_app (a b : List α) : cellsK enc (a ++ b) = cellsK enc a ++ cellsK enc b := by unfold cellsK; rw [List.flatMap_append]
theorem cellsK_cons (a : α) (b : List α) : cellsK enc (a :: b) = enc a ++ cellsK enc b := by unfold cellsK; rw [List.flatMap_cons]
theorem cellsK_one (a : α) : cellsK enc [a] = enc a := by unfold cellsK; simp
theorem cellsK_len (hk : ∀ x, (enc x).length = k) (l : List α) : (cellsK enc l).length = l.length * k := by
  induction l with
  | nil => simp [cellsK]
  | cons a t ih => rw [cellsK_cons, List.length_append, hk, ih, List.length_cons, Nat.add_mul]; omega
theorem cellsK_at (hk : ∀ x, (enc x).length = k) (l : List α) : ∀ (j : Nat) (r : α), l[j]? = some r → ∀ i u, (enc r)[i]? = some u → (cellsK enc l)[j * k + i]? = some u := by
  induction l with
  | nil => intro j r h; simp at h
  | cons a t ih =>
    intro j r h i u hi
    rw [cellsK_cons]
    cases j with
    | zero =>
      cases h
      have hlt : i < (enc a).length := (List.getElem?_eq_some_iff.1 hi).1
      rw [Nat.zero_mul, Nat.zero_add, List.getElem?_append_left hlt]; exact hi
    | succ j =>
      rw [List.getElem?_append_right (by rw [hk, Nat.add_mul]; omega), hk]
      rw [show (j + 1) * k + i - k = j * k + i by rw [Nat.add_mul]; omega]
      exact ih j r (by simpa using h) i u hi
theorem RowK.of_own {B : Nat} {t : TypeId} (hk : ∀ x, (enc x).length = k) (h : W.ownsRow B t k v l.length (cellsK enc l)) : RowK k enc W v l := by
  rcases h.2 with ⟨rfl, h0⟩ | ⟨g, cap, cur, rfl, hg, hgg, _, _, hcs, htk⟩
  · exact .inl ⟨rfl, List.length_eq_zero_iff.1 h0⟩
  · refine .inr ⟨_, cap, rfl, fun j r hj => ⟨g, 0, rfl, (Array.getElem?_eq_some_iff.1 hgg).1, fun i u hi => ?_⟩⟩
    have h0 := cellsK_at hk l j r hj i u hi
    have hc := h.cells (g := g) rfl
    rw [Nat.zero_add]
    have e : ∀ o, (⟨g, 0, none⟩ : Addr).add o = ⟨g, o, none⟩ := fun o => by unfold Addr.add; split <;> simp_all
    rw [← e]; exact hc _ _ h0
theorem take_at' {l : List α} {k : Nat} {r : α} (h : l[k]? = some r) : l.take (k + 1) = l.take k ++ [r] := by
  obtain ⟨hk, rfl⟩ := List.getElem?_eq_some_iff.1 h
  exact List.take_succ_eq_append_getElem hk
end

/-- An entry; a note. -/
structure EL where
  uid : Nat
  fl : Nat
structure NL where
  kind : Int
  seq : Int
  e : EL
def noE : EL := ⟨0, 0⟩
def encE (e : EL) : List Value := [.int .u32 e.uid, .int .u8 e.fl]
def encN (n : NL) : List Value := [.int .i64 n.kind, .int .i64 n.seq, .int .u32 n.e.uid, .int .u8 n.e.fl]
def eV (e : EL) : Value := .agg #[.int .u32 e.uid, .int .u8 e.fl]
def nV (n : NL) : Value := .agg #[.int .i64 n.kind, .int .i64 n.seq, .int .u32 n.e.uid, .int .u8 n.e.fl]
theorem encE_len (x : EL) : (encE x).length = 2 := rfl
theorem encN_len (x : NL) : (encN x).length = 4 := rfl
abbrev EntRow := @RowK EL 2 encE
abbrev NoteRow := @RowK NL 4 encN
theorem EntRow.at {W : World} {l : List EL} {ad : Option Addr} {n cp : Nat} (h : EntRow W (.slice ad n cp) l) {j : Nat} {r : EL} (hj : l[j]? = some r) :
    ∃ b off, ad = some ⟨b, off, none⟩ ∧ b < W.heap.size ∧ W.cell? ⟨b, off + j * 2, none⟩ = some (.int .u32 r.uid) ∧ W.cell? ⟨b, off + j * 2 + 1, none⟩ = some (.int .u8 r.fl) := by
  obtain ⟨b, off, e, hb, hc⟩ := RowK.at h hj
  exact ⟨b, off, e, hb, hc 0 _ rfl, hc 1 _ rfl⟩
theorem NoteRow.at {W : World} {l : List NL} {ad : Option Addr} {n cp : Nat} (h : NoteRow W (.slice ad n cp) l) {j : Nat} {r : NL} (hj : l[j]? = some r) :
    ∃ b off, ad = some ⟨b, off, none⟩ ∧ b < W.heap.size ∧ W.cell? ⟨b, off + j * 4, none⟩ = some (.int .i64 r.kind) ∧ W.cell? ⟨b, off + j * 4 + 1, none⟩ = some (.int .i64 r.seq) ∧
      W.cell? ⟨b, off + j * 4 + 2, none⟩ = some (.int .u32 r.e.uid) ∧ W.cell? ⟨b, off + j * 4 + 3, none⟩ = some (.int .u8 r.e.fl) := by
  obtain ⟨b, off, e, hb, hc⟩ := RowK.at h hj
  exact ⟨b, off, e, hb, hc 0 _ rfl, hc 1 _ rfl, hc 2 _ rfl, hc 3 _ rfl⟩

/-- A list behind a note, behind notes. -/
def stepL (l : List EL) (n : NL) : Option (List EL) :=
  if n.kind = 1 then (if n.seq < l.length ∨ 65536 < n.seq - l.length then none else some (l ++ List.replicate (n.seq.toNat - l.length) noE))
  else if (n.kind ≠ 0 ∧ n.kind ≠ 2) ∨ n.seq < 1 ∨ (l.length : Int) < n.seq then none
  else if n.kind = 2 then some (l.set (n.seq.toNat - 1) n.e) else some (l.eraseIdx (n.seq.toNat - 1))
def playL (l : List EL) : List NL → Option (List EL)
  | [] => some l
  | n :: ns => match stepL l n with | none => none | some m => playL m ns
theorem playL_snoc (ns : List NL) (n : NL) : ∀ l, playL l (ns ++ [n]) = match playL l ns with | none => none | some m => stepL m n := by
  induction ns with
  | nil => intro l; simp only [List.nil_append, playL]; cases stepL l n <;> rfl
  | cons a t ih =>
    intro l
    simp only [List.cons_append, playL]
    cases stepL l a with
    | none => rfl
    | some m => exact ih m
theorem playL_app (a b : List NL) : ∀ l, playL l (a ++ b) = match playL l a with | none => none | some m => playL m b := by
  induction a with
  | nil => intro l; rfl
  | cons x t ih =>
    intro l
    simp only [List.cons_append, playL]
    cases stepL l x with
    | none => rfl
    | some m => exact ih m
theorem stepL_len {l m : List EL} {n : NL} (h : stepL l n = some m) : m.length ≤ l.length + 65536 := by
  unfold stepL at h
  split at h
  · split at h
    · cases h
    · cases h; rw [List.length_append, List.length_replicate]; omega
  · split at h
    · cases h
    · split at h
      · cases h; rw [List.length_set]; omega
      · cases h
        have := List.length_eraseIdx_le l (n.seq.toNat - 1)
        omega
theorem playL_len (ns : List NL) : ∀ (l m : List EL), playL l ns = some m → m.length ≤ l.length + 65536 * ns.length := by
  induction ns with
  | nil => intro l m h; cases h; simp
  | cons a t ih =>
    intro l m h
    simp only [playL] at h
    split at h
    · cases h
    · rename_i q hq
      have h1 := stepL_len hq
      have h2 := ih q m h
      rw [List.length_cons]; omega
/-- The place of the first entry of a number. -/
def findI (l : List EL) (u : Nat) : Int := match l.findIdx? (fun e => decide (e.uid = u)) with | none => -1 | some i => i
def getE (l : List EL) (u : Nat) : EL × Bool := match l.find? (fun e => decide (e.uid = u)) with | none => (noE, false) | some e => (e, true)
def lastE (l : List EL) : Nat := match l.getLast? with | none => 0 | some e => e.uid
/-- Do numbers rise, from 1 on? -/
def UpE (l : List EL) : Prop := l.Pairwise (fun a b => a.uid < b.uid) ∧ ∀ e ∈ l, 0 < e.uid
end Go.Proofs.YtkmhdaalabhcbaaDoor

/-
  Bytes that come in parts: what a feed is at, what a byte makes of it, what it then tells.
-/
import Derived.Test.YtkmhdaalabhcbaaDoorTk1
set_option linter.unusedVariables false
set_option linter.unusedSimpArgs false
namespace Go.Proofs.YtkmhdaalabhcbaaDoor
open Go Go.RowKit

structure FS where
  t : List UInt8
  lits : Nat
  fr : Nat
  to : Nat
  m : Nat
def FS.new : FS := ⟨[], 0, 0, 0, 0⟩
def FS.skips (b : UInt8) : FS := ⟨[], 0, 0, 0, if b = 13 then 3 else 2⟩
/-- Where the last 123 stands; 0 where there is none. -/
def lastI (l : List UInt8) : Nat := (l.reverse.dropWhile fun c => c != 123).length - 1
def hdS (l : List UInt8) : RS := ⟨l.drop (lastI l), false⟩
def hdS1 (l : List UInt8) : RS := wordS (hdS l) [123]
def hdS2 (l : List UInt8) : RS := numS (hdS1 l)
def hdB (l : List UInt8) : Bool := wordB (hdS2 l) [125] && (!(wordS (hdS2 l) [125]).f && (wordS (hdS2 l) [125]).l.isEmpty)
/-- The head with which a line ends: its number, whether there is one. -/
def headN (l : List UInt8) : Nat := if wordB (hdS l) [123] then numN (hdS1 l) else 0
def headB (l : List UInt8) : Bool := wordB (hdS l) [123] && hdB l
abbrev Pc := Nat × List UInt8
/-- Behind a line's byte: t is all with it. -/
def lineS (t : List UInt8) (lits fr to : Nat) (b : UInt8) : FS × List Pc :=
  if Lib.hasSuffix (t.drop to) [13, 10] then
    (let l := (t.drop to).take ((t.drop to).length - 2)
     if headB l then
       if 65536 - lits < headN l then (FS.new, [(2, t.take (t.length - 2))])
       else (⟨t, lits + headN l, t.length, t.length + headN l, if headN l = 0 then 0 else 1⟩, [(1, [])])
     else (FS.new, [(0, t.take (t.length - 2))]))
  else if 8192 + lits < t.length then (FS.skips b, [(3, t)])
  else (⟨t, lits, fr, to, 0⟩, [])
def litS' (t : List UInt8) (lits fr to : Nat) : FS := ⟨t, lits, fr, to, if t.length = to then 0 else 1⟩
def stepF (s : FS) (b : UInt8) : FS × List Pc :=
  if s.m = 0 then lineS (s.t ++ [b]) s.lits s.fr s.to b
  else if s.m = 1 then (litS' (s.t ++ [b]) s.lits s.fr s.to, [])
  else if s.m = 2 then (⟨s.t, s.lits, s.fr, s.to, if b = 13 then 3 else 2⟩, [])
  else (if b = 10 then FS.new else ⟨s.t, s.lits, s.fr, s.to, if b = 13 then 3 else 2⟩, [])
def takeF : FS → List UInt8 → FS × List Pc
  | s, [] => (s, [])
  | s, b :: r => ((takeF (stepF s b).1 r).1, (stepF s b).2 ++ (takeF (stepF s b).1 r).2)
theorem takeF_app (a b : List UInt8) : ∀ s, takeF s (a ++ b) = ((takeF (takeF s a).1 b).1, (takeF s a).2 ++ (takeF (takeF s a).1 b).2) := by
  induction a with
  | nil => intro s; rfl
  | cons c r ih => intro s; rw [List.cons_append, takeF, ih, takeF]; simp
theorem takeF_one (s : FS) (b : UInt8) : takeF s [b] = stepF s b := by simp [takeF]

/-- What a feed may be at. -/
structure FS.Ok (s : FS) : Prop where
  m : s.m ≤ 3
  lits : s.lits ≤ 65536
  line : s.m = 0 → s.to ≤ s.t.length
  lit : s.m = 1 → s.t.length < s.to
  tos : s.to ≤ 200000
  frs : s.fr ≤ 200000
theorem new_ok : FS.new.Ok := ⟨by decide, by decide, fun _ => by decide, fun h => (by cases h), by decide, by decide⟩
theorem skips_m (b : UInt8) : (FS.skips b).m = if b = 13 then 3 else 2 := rfl
theorem skips_ok (b : UInt8) : (FS.skips b).Ok := by
  refine ⟨?_, Nat.zero_le _, ?_, ?_, Nat.zero_le _, Nat.zero_le _⟩
  · rw [skips_m]; split <;> omega
  · rw [skips_m]; split <;> (intro h; cases h)
  · rw [skips_m]; split <;> (intro h; cases h)
theorem numN_le (s : RS) : numN s ≤ 4294967295 := by
  unfold numN numO numR
  split
  · exact Nat.zero_le _
  · split
    · split
      · simpa using by assumption
      · exact Nat.zero_le _
    · exact Nat.zero_le _
theorem headN_le (l : List UInt8) : headN l ≤ 4294967295 := by
  unfold headN; split
  · exact numN_le _
  · exact Nat.zero_le _
theorem lineS_ok {t : List UInt8} {lits fr to : Nat} (b : UInt8) (h1 : lits ≤ 65536) (h2 : to ≤ t.length) (h3 : t.length ≤ 100000) (h4 : fr ≤ 200000) (h5 : to ≤ 200000) :
    (lineS t lits fr to b).1.Ok ∧ (lineS t lits fr to b).1.t.length ≤ t.length := by
  unfold lineS
  split
  · dsimp only
    split
    · split
      · exact ⟨new_ok, Nat.zero_le _⟩
      · rename_i hn
        refine ⟨⟨?_, ?_, ?_, ?_, ?_, ?_⟩, Nat.le_refl _⟩
        · dsimp only; split <;> omega
        · dsimp only; omega
        · dsimp only; intro h; split at h
          · omega
          · cases h
        · dsimp only; intro h; split at h
          · cases h
          · omega
        · dsimp only; omega
        · dsimp only; omega
    · exact ⟨new_ok, Nat.zero_le _⟩
  · split
    · exact ⟨skips_ok b, Nat.zero_le _⟩
    · exact ⟨⟨Nat.zero_le _, h1, fun _ => h2, fun h => (by cases h), h5, h4⟩, Nat.le_refl _⟩
theorem stepF_ok {s : FS} (h : s.Ok) (b : UInt8) (hl : s.t.length < 100000) : (stepF s b).1.Ok ∧ (stepF s b).1.t.length ≤ s.t.length + 1 := by
  have e : (s.t ++ [b]).length = s.t.length + 1 := by simp
  unfold stepF
  split
  · rename_i h0
    have := lineS_ok (t := s.t ++ [b]) (fr := s.fr) b h.lits (by rw [e]; have := h.line h0; omega) (by omega) h.frs h.tos
    rw [e] at this; exact this
  · split
    · rename_i h1
      have h9 := h.lit h1
      refine ⟨⟨?_, h.lits, ?_, ?_, h.tos, h.frs⟩, by show (s.t ++ [b]).length ≤ _; omega⟩
      · unfold litS'; dsimp only; split <;> omega
      · unfold litS'; dsimp only; intro _; rw [e]; split at * <;> omega
      · unfold litS'; dsimp only; intro _; rw [e]; split at * <;> omega
    · split
      · refine ⟨⟨?_, h.lits, ?_, ?_, h.tos, h.frs⟩, by dsimp only; omega⟩
        · dsimp only; split <;> omega
        · dsimp only; split <;> (intro h; cases h)
        · dsimp only; split <;> (intro h; cases h)
      · split
        · exact ⟨new_ok, Nat.zero_le _⟩
        · refine ⟨⟨?_, h.lits, ?_, ?_, h.tos, h.frs⟩, by dsimp only; omega⟩
          · dsimp only; split <;> omega
          · dsimp only; split <;> (intro h; cases h)
          · dsimp only; split <;> (intro h; cases h)
theorem takeF_ok (l : List UInt8) : ∀ {s : FS}, s.Ok → s.t.length + l.length < 100000 → (takeF s l).1.Ok ∧ (takeF s l).1.t.length ≤ s.t.length + l.length := by
  induction l with
  | nil => intro s h hl; exact ⟨h, Nat.le_refl _⟩
  | cons b r ih =>
    intro s h hl
    rw [List.length_cons] at hl ⊢
    obtain ⟨h1, h2⟩ := stepF_ok h b (by omega)
    obtain ⟨h3, h4⟩ := ih h1 (by omega)
    exact ⟨h3, by rw [takeF]; dsimp only; omega⟩
/-- At most one piece a byte. -/
theorem stepF_few (s : FS) (b : UInt8) : (stepF s b).2.length ≤ 1 := by
  unfold stepF lineS
  split
  · split
    · dsimp only; split
      · split <;> simp
      · simp
    · split <;> simp
  · split
    · simp
    · split <;> simp
theorem takeF_few (l : List UInt8) : ∀ s, (takeF s l).2.length ≤ l.length := by
  induction l with
  | nil => intro s; exact Nat.le_refl _
  | cons b r ih =>
    intro s
    rw [takeF]; dsimp only
    have := stepF_few s b
    have := ih (stepF s b).1
    rw [List.length_append, List.length_cons]; omega
end Go.Proofs.YtkmhdaalabhcbaaDoor

/-
  One access, whatever its number: the program's and the document's: contracts that need no case.
-/
import Derived.Test.YtmfpfebnlflfiabMemU
import Derived.Test.YtmfpfebnlflfiabPack
set_option linter.unusedVariables false
set_option linter.unusedSimpArgs false
namespace Go.Proofs.Ytmfpfebnlflfiab
open Go Go.RowKit

def okI (n : Nat) (i : Int) : Prop := 0 ≤ i ∧ i < (n : Int)
instance (n : Nat) (i : Int) : Decidable (okI n i) := inferInstanceAs (Decidable (_ ∧ _))
def tick (n t : Nat) (i : Int) : Nat := if okI n i then t + 1 else t
def at0 (n : Nat) (f : Nat → Nat) (i : Int) : Nat := if okI n i then f i.toNat else 0
def updI (n : Nat) (f : Nat → Nat) (i : Int) (v : Nat) : Nat → Nat := if okI n i then upd f i.toNat v else f
def storeL (n t : Nat) (l : List Ch) (i : Int) (x : Nat) : List Ch := if okI n i then l ++ [(i.toNat, x, t + 1)] else l
def casB (n : Nat) (ws : Nat → Nat) (i : Int) (o : Nat) : Bool := decide (okI n i) && decide (ws i.toNat = o)

theorem tick_le (n t : Nat) (i : Int) : tick n t i ≤ t + 1 := by unfold tick; split <;> omega
theorem tick_ge (n t : Nat) (i : Int) : t ≤ tick n t i := by unfold tick; split <;> omega
theorem not_ok {n : Nat} {i : Int} (h : ¬ okI n i) : i < 0 ∨ (n : Int) ≤ i := by unfold okI at h; omega

/-- The program's memory is the document's. -/
structure Agree (n : Nat) (ws cs : Nat → Nat) (l : List Ch) : Prop where
  word : ∀ i, at0 n ws i = (lastC l i).2.1
  time : ∀ i, at0 n cs i = (lastC l i).2.2
  lt : ∀ x ∈ l, x.1 < n
theorem agree_new (n : Nat) : Agree n (fun _ => 0) (fun _ => 0) [] := ⟨fun i => by unfold at0; split <;> rfl, fun i => by unfold at0; split <;> rfl, fun x hx => by simp at hx⟩
theorem at0_upd (n : Nat) (f : Nat → Nat) (i j : Int) (v : Nat) (hi : okI n i) : at0 n (upd f i.toNat v) j = if i = j then v else at0 n f j := by
  unfold at0 upd
  by_cases hj : okI n j
  · rw [if_pos hj, if_pos hj]
    unfold okI at hi hj
    by_cases e : i = j
    · subst e; simp
    · rw [if_neg e, if_neg (by omega)]
  · rw [if_neg hj, if_neg hj]
    by_cases e : i = j
    · subst e; exact absurd hi hj
    · rw [if_neg e]
theorem Agree.store {n : Nat} {ws cs : Nat → Nat} {l : List Ch} (h : Agree n ws cs l) (t : Nat) (i : Int) (x : Nat) : Agree n (updI n ws i x) (updI n cs i (t + 1)) (storeL n t l i x) := by
  unfold updI storeL
  by_cases hi : okI n i
  · have hi2 := hi
    unfold okI at hi2
    simp only [if_pos hi]
    have e0 : ((i.toNat : Nat) : Int) = i := by omega
    refine ⟨fun j => ?_, fun j => ?_, fun y hy => ?_⟩
    · rw [at0_upd n ws i j x hi]
      by_cases e : i = j
      · rw [if_pos e, lastC_same _ _ _ (by show ((i.toNat : Nat) : Int) = j; omega)]
      · rw [if_neg e, lastC_other _ _ _ (by show ((i.toNat : Nat) : Int) ≠ j; omega)]; exact h.word j
    · rw [at0_upd n cs i j (t + 1) hi]
      by_cases e : i = j
      · rw [if_pos e, lastC_same _ _ _ (by show ((i.toNat : Nat) : Int) = j; omega)]
      · rw [if_neg e, lastC_other _ _ _ (by show ((i.toNat : Nat) : Int) ≠ j; omega)]; exact h.time j
    · rcases List.mem_append.1 hy with hy | hy
      · exact h.lt y hy
      · simp at hy; subst hy; show i.toNat < n; omega
  · simp only [if_neg hi]; exact h
theorem storeL_len (n t : Nat) (l : List Ch) (i : Int) (x : Nat) : (storeL n t l i x).length ≤ l.length + 1 := by
  unfold storeL; split <;> simp

def afterCas (c : Bool) (f g : Nat → Nat) : Nat → Nat := if c then f else g
def casW (n : Nat) (ws : Nat → Nat) (i : Int) (o x : Nat) : Nat → Nat := if casB n ws i o then updI n ws i x else ws
def casC (n t : Nat) (ws cs : Nat → Nat) (i : Int) (o : Nat) : Nat → Nat := if casB n ws i o then updI n cs i (t + 1) else cs
def casL (n t : Nat) (ws : Nat → Nat) (l : List Ch) (i : Int) (o x : Nat) : List Ch := if casB n ws i o then storeL n t l i x else l
theorem Agree.cas {n : Nat} {ws cs : Nat → Nat} {l : List Ch} (h : Agree n ws cs l) (t : Nat) (i : Int) (o x : Nat) : Agree n (casW n ws i o x) (casC n t ws cs i o) (casL n t ws l i o x) := by
  unfold casW casC casL
  cases casB n ws i o
  · exact h
  · exact h.store t i x
theorem casL_len (n t : Nat) (ws : Nat → Nat) (l : List Ch) (i : Int) (o x : Nat) : (casL n t ws l i o x).length ≤ l.length + 1 := by
  unfold casL; split
  · exact storeL_len n t l i x
  · omega

theorem mLoad_any (B n t : Nat) (ws cs : Nat → Nat) (i : Int) (hn : n ≤ 8192) (ht : t < 1000000000) (w : World) (h : MemAt w B n t ws cs) :
    Calls Try.prog 12 #[pm B, .int .i64 i] w fun e w' => e = .returned (.int .u64 (at0 n ws i)) ∧ Only B w w' ∧ MemAt w' B n (tick n t i) ws cs := by
  by_cases hi : okI n i
  · obtain ⟨k, rfl⟩ := Int.eq_ofNat_of_zero_le hi.1
    have e1 : at0 n ws (k : Int) = ws k := by unfold at0; rw [if_pos hi]; rfl
    have e2 : tick n t (k : Int) = t + 1 := by unfold tick; rw [if_pos hi]
    rw [e1, e2]
    exact mLoad_yes B n t ws cs k (by have := hi.2; omega) hn ht w h
  · have e1 : at0 n ws i = 0 := by unfold at0; rw [if_neg hi]
    have e2 : tick n t i = t := by unfold tick; rw [if_neg hi]
    rw [e1, e2]
    refine (mLoad_no B n t ws cs i (not_ok hi) w h).mono ?_
    rintro e w' ⟨rfl, rfl⟩
    exact ⟨rfl, Only.refl _ _, h⟩

theorem mStore_any (B n t : Nat) (ws cs : Nat → Nat) (i : Int) (v : Nat) (hn : n ≤ 8192) (ht : t < 1000000000) (w : World) (h : MemAt w B n t ws cs) :
    Calls Try.prog 13 #[pm B, .int .i64 i, .int .u64 v] w fun e w' => (∃ u, e = .returned u) ∧ Only B w w' ∧ MemAt w' B n (tick n t i) (updI n ws i v) (updI n cs i (t + 1)) := by
  unfold updI
  by_cases hi : okI n i
  · obtain ⟨k, rfl⟩ := Int.eq_ofNat_of_zero_le hi.1
    have e2 : tick n t (k : Int) = t + 1 := by unfold tick; rw [if_pos hi]
    rw [e2, if_pos hi, if_pos hi]
    exact mStore_yes B n t ws cs k v (by have := hi.2; omega) hn ht w h
  · have e2 : tick n t i = t := by unfold tick; rw [if_neg hi]
    rw [e2, if_neg hi, if_neg hi]
    refine (mStore_no B n t ws cs i v (not_ok hi) w h).mono ?_
    rintro e w' ⟨hu, rfl⟩
    exact ⟨hu, Only.refl _ _, h⟩

theorem mCas_any (B n t : Nat) (ws cs : Nat → Nat) (i : Int) (o v : Nat) (hn : n ≤ 8192) (ht : t < 1000000000) (w : World) (h : MemAt w B n t ws cs) :
    Calls Try.prog 16 #[pm B, .int .i64 i, .int .u64 o, .int .u64 v] w fun e w' => e = .returned (.bool (casB n ws i o)) ∧ Only B w w' ∧ MemAt w' B n (tick n t i) (casW n ws i o v) (casC n t ws cs i o) := by
  unfold casW casC updI
  by_cases hi : okI n i
  · obtain ⟨k, rfl⟩ := Int.eq_ofNat_of_zero_le hi.1
    have e2 : tick n t (k : Int) = t + 1 := by unfold tick; rw [if_pos hi]
    by_cases ho : ws k = o
    · have e3 : casB n ws (k : Int) o = true := by unfold casB; simp [hi, ho]
      rw [e2, e3, if_pos hi, if_pos hi]
      exact mCas_yes B n t ws cs k o v (by have := hi.2; omega) hn ht w h ho
    · have e3 : casB n ws (k : Int) o = false := by unfold casB; simp [ho]
      rw [e2, e3]
      exact mCas_other B n t ws cs k o v (by have := hi.2; omega) hn ht w h ho
  · have e2 : tick n t i = t := by unfold tick; rw [if_neg hi]
    have e3 : casB n ws i o = false := by unfold casB; simp [hi]
    rw [e2, e3]
    refine (mCas_no B n t ws cs i o v (not_ok hi) w h).mono ?_
    rintro e w' ⟨rfl, rfl⟩
    exact ⟨rfl, Only.refl _ _, h⟩

theorem mChanged_any (B n t : Nat) (ws cs : Nat → Nat) (i : Int) (hn : n ≤ 8192) (w : World) (h : MemAt w B n t ws cs) :
    Calls Try.prog 18 #[pm B, .int .i64 i] w fun e w' => e = .returned (.int .u64 (at0 n cs i)) ∧ w = w' := by
  by_cases hi : okI n i
  · obtain ⟨k, rfl⟩ := Int.eq_ofNat_of_zero_le hi.1
    have e1 : at0 n cs (k : Int) = cs k := by unfold at0; rw [if_pos hi]; rfl
    rw [e1]
    exact mChanged_yes B n t ws cs k (by have := hi.2; omega) hn w h
  · have e1 : at0 n cs i = 0 := by unfold at0; rw [if_neg hi]
    rw [e1]
    exact mChanged_no B n t ws cs i (not_ok hi) w h

theorem rmLoad_any (B n t : Nat) (v : Value) (l : List Ch) (ws cs : Nat → Nat) (hl : l.length ≤ 1000) (ht : t < 1000000000) (i : Int) (w : World) (ho : ListAt w B v l) (ha : Agree n ws cs l) :
    Calls Try.prog 11 #[memV n t v, .int .i64 i] w fun e w' => e = .returned (.tuple #[memV n (tick n t i) v, .int .u64 (at0 n ws i)]) ∧ Below w.heap.size w w' := by
  rw [ha.word i]
  by_cases hi : okI n i
  · obtain ⟨k, rfl⟩ := Int.eq_ofNat_of_zero_le hi.1
    have e2 : tick n t (k : Int) = t + 1 := by unfold tick; rw [if_pos hi]
    rw [e2]
    exact rmLoad_yes B n t v l hl ht k (by have := hi.2; omega) w ho
  · have e2 : tick n t i = t := by unfold tick; rw [if_neg hi]
    have e3 : (lastC l i).2.1 = 0 := by rw [← ha.word i]; unfold at0; rw [if_neg hi]
    rw [e2, e3]
    obtain ⟨ad, cp, rfl⟩ := own_form ho.own
    exact rmLoad_no n t ad _ cp i (not_ok hi) w

theorem rmStore_any (B n t : Nat) (v : Value) (l : List Ch) (hl : l.length ≤ 1000) (ht : t < 1000000000) (i : Int) (x : Nat) (w : World) (ho : ListAt w B v l) (hB : B ≤ w.heap.size) :
    Calls Try.prog 14 #[memV n t v, .int .i64 i, .int .u64 x] w fun e w' => (∃ v', e = .returned (memV n (tick n t i) v') ∧ ListAt w' B v' (storeL n t l i x)) ∧ Below w.heap.size w w' := by
  unfold storeL
  by_cases hi : okI n i
  · obtain ⟨k, rfl⟩ := Int.eq_ofNat_of_zero_le hi.1
    have e2 : tick n t (k : Int) = t + 1 := by unfold tick; rw [if_pos hi]
    rw [e2, if_pos hi]
    refine (rmStore_yes B n t v l hl ht k x (by have := hi.2; omega) w ho hB).mono ?_
    rintro e w' ⟨⟨v', rfl, h⟩, hb⟩
    exact ⟨⟨v', rfl, h.mono hB⟩, hb⟩
  · have e2 : tick n t i = t := by unfold tick; rw [if_neg hi]
    rw [e2, if_neg hi]
    obtain ⟨ad, cp, rfl⟩ := own_form ho.own
    refine (rmStore_no n t ad _ cp i x (not_ok hi) w).mono ?_
    rintro e w' ⟨rfl, hb⟩
    exact ⟨⟨_, rfl, ho.below hb⟩, hb⟩

theorem rmCas_any (B n t : Nat) (v : Value) (l : List Ch) (ws cs : Nat → Nat) (hl : l.length ≤ 1000) (ht : t < 1000000000) (i : Int) (o x : Nat) (w : World) (ho : ListAt w B v l) (hB : B ≤ w.heap.size) (ha : Agree n ws cs l) :
    Calls Try.prog 15 #[memV n t v, .int .i64 i, .int .u64 o, .int .u64 x] w fun e w' => (∃ v', e = .returned (.tuple #[memV n (tick n t i) v', .bool (casB n ws i o)]) ∧ ListAt w' B v' (casL n t ws l i o x)) ∧ Below w.heap.size w w' := by
  unfold casL storeL
  by_cases hi : okI n i
  · obtain ⟨k, rfl⟩ := Int.eq_ofNat_of_zero_le hi.1
    have e2 : tick n t (k : Int) = t + 1 := by unfold tick; rw [if_pos hi]
    have e1 : ws k = (lastC l (k : Int)).2.1 := by rw [← ha.word]; unfold at0; rw [if_pos hi]; rfl
    by_cases hw : ws k = o
    · have e3 : casB n ws (k : Int) o = true := by unfold casB; simp [hi, hw]
      rw [e2, e3, if_pos hi]
      refine (rmCas_yes B n t v l hl ht k o x (by have := hi.2; omega) w ho hB (by rw [← e1]; exact hw)).mono ?_
      rintro e w' ⟨⟨v', rfl, h⟩, hb⟩
      exact ⟨⟨v', rfl, h.mono hB⟩, hb⟩
    · have e3 : casB n ws (k : Int) o = false := by unfold casB; simp [hw]
      rw [e2, e3]
      refine (rmCas_other B n t v l hl ht k o x (by have := hi.2; omega) w ho (by rw [← e1]; exact hw)).mono ?_
      rintro e w' ⟨rfl, hb⟩
      exact ⟨⟨v, rfl, ho.below hb⟩, hb⟩
  · have e2 : tick n t i = t := by unfold tick; rw [if_neg hi]
    have e3 : casB n ws i o = false := by unfold casB; simp [hi]
    rw [e2, e3]
    obtain ⟨ad, cp, rfl⟩ := own_form ho.own
    refine (rmCas_no n t ad _ cp i o x (not_ok hi) w).mono ?_
    rintro e w' ⟨rfl, hb⟩
    exact ⟨⟨_, rfl, ho.below hb⟩, hb⟩
end Go.Proofs.Ytmfpfebnlflfiab

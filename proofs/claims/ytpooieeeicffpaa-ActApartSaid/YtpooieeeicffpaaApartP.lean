/-
  The law ActApart: what stands.
-/
import Derived.Test.YtpooieeeicffpaaBld
import Derived.Laws.OwnMore
set_option linter.unusedVariables false
set_option linter.unusedSimpArgs false
namespace Go.Proofs.Ytpooieeeicffpaa
open Go Go.RowKit

variable {B : Nat} {D : Nat} {n sl nm : Nat → Nat} {Lb K km ka kd : Nat} {pb : Nat → Nat} {F : Nat → Prop} {av dv : Value} {W W' : World}
theorem Bld.drew (h : Bld D n sl nm Lb K km ka kd pb F av dv W) : Bld D n sl nm Lb K km ka kd pb F av dv W.drew := h.below ⟨rfl, rfl, rfl, Nat.le_refl _, fun _ _ => rfl⟩
/-- Behind all rounds, each act did all its steps, and its log is as long. -/
def LogEq (p : LP) (s : LS) : Prop := ∀ i, i < p.N → (s.lg i).length = s.d i
theorem LogEq.nx {p : LP} (hsl : ∀ i, p.sl i = i) (s : LS) (i : Nat) (hi : i < p.N) (h : LogEq p s) : LogEq p ((logMach p).nx s i) := by
  intro j hj
  show (put1 s.lg (p.sl i) (s.lg (p.sl i) ++ [p.nm i]) j).length = put1 s.d i (s.d i + 1) j
  rw [hsl]
  by_cases hji : j = i
  · subst hji; rw [put1_same, put1_same, List.length_append, List.length_singleton, h j hj]
  · rw [put1_other _ _ hji, put1_other _ _ hji]; exact h j hj
theorem apart_end (p : LP) (hsl : ∀ i, p.sl i = i) (hn : ∀ i, p.n i ≤ 20) (picks : List Int) : ∀ i, i < p.N → ((logMach p).rest 20 ((logMach p).turn0 s0 picks).1).1.d i = p.n i ∧ (((logMach p).rest 20 ((logMach p).turn0 s0 picks).1).1.lg i).length = p.n i := by
  have hle0 : LeD p s0 := fun i => Nat.zero_le _
  have hlg0 : LogEq p s0 := fun i hi => rfl
  obtain ⟨s1, hs1⟩ : ∃ s1, ((logMach p).turn0 s0 picks).1 = s1 := ⟨_, rfl⟩
  have h1 : LeD p s1 ∧ LogEq p s1 := by
    rw [← hs1]
    unfold Mach.turn0
    split
    · exact ⟨hle0, hlg0⟩
    · rename_i hN
      exact ⟨turn_inv' (logMach p) (LeD p) (fun s i h ho => LeD.nx s i h ho) s0 hle0 picks, turn_inv (logMach p) (LogEq p) (by show 0 < (logMach p).N; omega) (fun s i hi h ho => LogEq.nx hsl s i hi h) s0 hlg0 picks⟩
  rw [hs1]
  intro i hi
  have h2 := rest_full 20 s1 h1.1 (fun i hi => by have := hn i; omega) i hi
  have h3 := rest_inv (logMach p) (LogEq p) (fun s i hi h ho => LogEq.nx hsl s i hi h) 20 s1 h1.2 i hi
  exact ⟨h2, h3.trans h2⟩

/-- No act but nil ones: nothing is done. -/
def nilMach : Mach Unit where
  N := 1
  p := fun _ => .pointer none
  M := fun _ F _ => ∀ k, ¬ F k
  over := fun _ _ => true
  nx := fun _ _ => ()
  cost := fun _ => 0
theorem nilMach_ok : nilMach.Ok where
  stab := fun h _ _ => h
  inn := fun h hk => absurd hk (h _)
  ov := fun _ _ => over_nil _
  st := fun _ _ ho _ => by cases ho
  cst := fun _ _ => Nat.zero_le _
  one := fun _ => rfl
theorem nil_rest (W : World) (lv : Value) (h : RowAt W lv [.pointer none]) : Calls Try.prog 17 #[.int .i64 5, lv] W fun e w' => e = .returned (.int .i64 0) ∧ Below W.heap.size W w' := by
  refine (rest_c nilMach_ok (by show 1 ≤ 20; omega) lv 5 5 rfl (by omega) () (fun _ => False) W (fun _ h => h) (by show 0 + _ < _; omega) h).mono ?_
  rintro e w' ⟨rfl, F', h1, h2⟩
  exact ⟨rfl, h2.toBelow (Nat.le_refl _) (fun k hk => hk.elim)⟩
end Go.Proofs.Ytpooieeeicffpaa

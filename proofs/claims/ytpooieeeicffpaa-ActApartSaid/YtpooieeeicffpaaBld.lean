/-
  The law builds its acts one by one: what stands meanwhile.
-/
import Derived.Test.YtpooieeeicffpaaPure4
import Derived.Test.YtpooieeeicffpaaAwake4
import Derived.Test.YtpooieeeicffpaaRest
set_option linter.unusedVariables false
set_option linter.unusedSimpArgs false
namespace Go.Proofs.Ytpooieeeicffpaa
open Go Go.RowKit

theorem Mach.Ok.grown {σ : Type} {m : Mach σ} (hm : m.Ok) {s : σ} {F : Nat → Prop} {A B : World} {row : Option Nat} (h : m.M s F A) (hg : A.grownBy B row) (hr : ∀ r, row = some r → ¬ F r) : m.M s F B :=
  hm.stab h (fun k hk => hg.block k (hm.lt h hk) (fun e => hr k e.symm hk)) hg.size
theorem own_grown {A B : World} {base e size n : Nat} {v : Value} {xs : List Value} {row : Option Nat} (h : A.ownsRow base e size v n xs) (hg : A.grownBy B row) (hr : ∀ k, v.ownBlock = some k → row ≠ some k) : B.ownsRow base e size v n xs :=
  own_same h fun k hk => hg.block k (h.lt k hk).2 (fun e => hr k hk e.symm)
theorem LM.grown {p : LP} {s : LS} {F : Nat → Prop} {A B : World} {vs : Nat → Value} {bx : Nat → Nat} {cur : Array Value} {row : Option Nat} (h : LM p s F A vs bx cur) (hg : A.grownBy B row) (hr : ∀ r, row = some r → ¬ F r) : LM p s F B vs bx cur :=
  h.stab fun k hk => by
    obtain ⟨c, e, fz, hc⟩ := h.inn hk
    exact hg.block k (Array.getElem?_eq_some_iff.1 hc).1 (fun e => hr k e.symm hk)
/-- No block of the machine is a row of pointers. -/
theorem LM.noPA {p : LP} {s : LS} {F : Nat → Prop} {A : World} {vs : Nat → Value} {bx : Nat → Nat} {cur : Array Value} (h : LM p s F A vs bx cur) {k : Nat} {c : Array Value} {fz : Nat × Nat} (hc : A.heap[k]? = some (.cells c 26 fz)) : ¬ F k := by
  intro hk
  rcases (h.foot k).1 hk with rfl | ⟨i, hi, rfl⟩ | ⟨j, hj, hj2⟩ | ⟨i, hi, hd, hk⟩
  · exact block_ne h.log hc (by decide) rfl
  · obtain ⟨nx, hx⟩ := h.act hi
    exact block_ne hx hc (by decide) rfl
  · obtain ⟨c2, hc2⟩ := own_cells (h.row j hj) hj2
    exact block_ne hc2 hc (by decide) rfl
  · have hcl := (h.go i hi hd).2
    rcases hk with rfl | rfl | rfl
    · exact block_ne hcl.b0 hc (by decide) rfl
    · exact block_ne hcl.b1 hc (by decide) rfl
    · exact block_ne hcl.b2 hc (by decide) rfl

/-- The acts' parameters: k of them. -/
def lpk (n sl nm : Nat → Nat) (Lb K k : Nat) (pb : Nat → Nat) : LP := { N := k, n := n, pb := pb, sl := sl, nm := nm, Lb := Lb, K := K }
def s0 : LS := ⟨fun _ => 0, fun _ => [], 0⟩
def actsV (pb : Nat → Nat) (k : Nat) : List Value := (List.range k).map fun i => pa (pb i)
theorem actsV_ptrs (n sl nm : Nat → Nat) (Lb K k : Nat) (pb : Nat → Nat) : ptrs (logMach (lpk n sl nm Lb K k pb)) = actsV pb k := rfl
theorem actsV_succ (pb : Nat → Nat) (k B : Nat) : actsV (put1 pb k B) (k + 1) = actsV pb k ++ [pa B] := by
  unfold actsV
  rw [List.range_succ, List.map_append, List.map_singleton, put1_same]
  congr 1
  refine List.map_congr_left fun i hi => ?_
  rw [List.mem_range] at hi
  rw [put1_other _ _ (by omega)]
theorem actsV_put (pb : Nat → Nat) (k j B : Nat) (h : j ≤ k) : actsV (put1 pb k B) j = actsV pb j := by
  unfold actsV
  refine List.map_congr_left fun i hi => ?_
  rw [List.mem_range] at hi
  rw [put1_other _ _ (by omega)]
theorem zeros_succ (k : Nat) : rowD (k + 1) (fun _ => 0) = rowD k (fun _ => 0) ++ [.int .i64 0] := by
  unfold rowD; rw [List.range_succ, List.map_append]; rfl

/-- km acts are made, ka of them are in the row, kd zeros. Everything of the acts lies from D on. -/
structure Bld (D : Nat) (n sl nm : Nat → Nat) (Lb K km ka kd : Nat) (pb : Nat → Nat) (F : Nat → Prop) (av dv : Value) (W : World) : Prop where
  mm : ∃ vs bx cur, LM (lpk n sl nm Lb K km pb) s0 F W vs bx cur
  inj : ∀ i j, i < km → j < km → i ≠ j → pb i ≠ pb j
  lo : ∀ j, F j → D ≤ j
  ar : W.ownsRow D 26 1 av ka (actsV pb ka)
  dr : W.ownsRow D 3 1 dv kd (rowD kd (fun _ => 0))
  da : Apart F dv
  size : D ≤ W.heap.size

variable {B : Nat} {D : Nat} {n sl nm : Nat → Nat} {Lb K km ka kd : Nat} {pb : Nat → Nat} {F : Nat → Prop} {av dv : Value} {W W' : World}
theorem Bld.below (h : Bld D n sl nm Lb K km ka kd pb F av dv W) (hb : Below W.heap.size W W') : Bld D n sl nm Lb K km ka kd pb F av dv W' := by
  obtain ⟨vs, bx, cur, hm⟩ := h.mm
  exact { h with
    mm := ⟨vs, bx, cur, hm.stab fun k hk => by
      obtain ⟨c, e, fz, hc⟩ := hm.inn hk
      exact hb.block k (Array.getElem?_eq_some_iff.1 hc).1⟩
    ar := own_below h.ar hb
    dr := own_below h.dr hb
    size := Nat.le_trans h.size hb.size }
theorem Bld.alloc (h : Bld D n sl nm Lb K km ka kd pb F av dv W) (o : Obj) : Bld D n sl nm Lb K km ka kd pb F av dv (W.alloc o) := h.below ((Below.refl _ _).alloc (Nat.le_refl _) _)
/-- One act more is made. -/
theorem Bld.act (h : Bld D n sl nm Lb K km km kd pb F av dv W) {Bx : Nat} (hB : W.heap.size ≤ B) (hBx : W.heap.size ≤ Bx) (hb : Below W.heap.size W W') (ha : NewAct W' B Bx (n km) (nm km) Lb (sl km)) :
    ∃ F', Bld D n sl nm Lb K (km + 1) km kd (put1 pb km B) F' av dv W' := by
  obtain ⟨vs, bx, cur, hm⟩ := h.mm
  obtain ⟨h1, h2⟩ := hm.add (W' := W') rfl hB hBx hb ha
  refine ⟨_, ⟨⟨vs, _, cur, h1⟩, ?_, ?_, ?_, own_below h.dr hb, ?_, Nat.le_trans h.size hb.size⟩⟩
  · have hlt : ∀ i, i < km → pb i < W.heap.size := fun i hi => by
      obtain ⟨nx, hx⟩ := hm.act (i := i) hi
      exact hx.lt
    intro i j hi hj hne
    by_cases hi2 : i = km
    · subst hi2
      rw [put1_same, put1_other _ _ (Ne.symm hne)]
      have := hlt j (by omega); omega
    · rw [put1_other _ _ hi2]
      by_cases hj2 : j = km
      · subst hj2
        rw [put1_same]
        have := hlt i (by omega); omega
      · rw [put1_other _ _ hj2]
        exact h.inj i j (by omega) (by omega) hne
  · intro j hj
    rcases h2 j hj with hj | hj
    · exact h.lo j hj
    · have := h.size; omega
  · rw [actsV_put _ _ _ _ (Nat.le_refl _)]
    exact own_below h.ar hb
  · intro k hk hf
    rcases h2 k hf with hf | hf
    · exact h.da k hk hf
    · have := (h.dr.lt k hk).2; omega
/-- .. and comes into the row. -/
theorem Bld.acts (h : Bld D n sl nm Lb K (km + 1) km kd (put1 pb km B) F av dv W) {g cap : Nat} (hown : W'.ownsRow D 26 1 (.slice (some ⟨g, 0, none⟩) (km + 1) cap) (km + 1) (actsV pb km ++ [pa B])) (hg : W.grownBy W' av.ownBlock) :
    Bld D n sl nm Lb K (km + 1) (km + 1) kd (put1 pb km B) F (.slice (some ⟨g, 0, none⟩) (km + 1) cap) dv W' := by
  obtain ⟨vs, bx, cur, hm⟩ := h.mm
  have hne : ∀ k, av.ownBlock = some k → ¬ F k := fun k hk => by
    obtain ⟨c, hc⟩ := own_cells h.ar hk
    exact hm.noPA hc
  refine ⟨⟨vs, bx, cur, hm.grown hg hne⟩, h.inj, h.lo, by rw [actsV_succ]; exact hown, own_grown h.dr hg (fun k hk e => ?_), h.da, Nat.le_trans h.size hg.size⟩
  obtain ⟨c, hc⟩ := own_cells h.ar e
  obtain ⟨c2, hc2⟩ := own_cells h.dr hk
  exact block_ne hc hc2 (by decide) rfl
/-- .. and a zero more. -/
theorem Bld.zero (h : Bld D n sl nm Lb K km ka kd pb F av dv W) {g cap : Nat} (hown : W'.ownsRow D 3 1 (.slice (some ⟨g, 0, none⟩) (kd + 1) cap) (kd + 1) (rowD kd (fun _ => 0) ++ [.int .i64 0])) (hg : W.grownBy W' dv.ownBlock) (hat : dv.ownBlock = some g ∨ W.heap.size ≤ g) :
    Bld D n sl nm Lb K km ka (kd + 1) pb F av (.slice (some ⟨g, 0, none⟩) (kd + 1) cap) W' := by
  obtain ⟨vs, bx, cur, hm⟩ := h.mm
  refine ⟨⟨vs, bx, cur, hm.grown hg h.da⟩, h.inj, h.lo, own_grown h.ar hg (fun k hk e => ?_), by rw [zeros_succ]; exact hown, ?_, Nat.le_trans h.size hg.size⟩
  · obtain ⟨c, hc⟩ := own_cells h.ar hk
    obtain ⟨c2, hc2⟩ := own_cells h.dr e
    exact block_ne hc hc2 (by decide) rfl
  · intro k hk hf
    obtain rfl : g = k := Option.some.inj hk
    rcases hat with h2 | h2
    · exact h.da g h2 hf
    · obtain ⟨c, e, fz, hc⟩ := hm.inn hf
      have := (Array.getElem?_eq_some_iff.1 hc).1
      omega
theorem Bld.fit (h : Bld D n sl nm Lb K km ka kd pb F av dv W) (hn : ∀ i, n i ≤ 100) (hs : ∀ i, i < km → sl i < K) : (lpk n sl nm Lb K km pb).Fit := ⟨hn, h.inj, hs⟩
end Go.Proofs.Ytpooieeeicffpaa

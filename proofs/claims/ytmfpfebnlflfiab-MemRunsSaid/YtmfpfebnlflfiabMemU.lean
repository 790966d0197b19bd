/-
  The document's memory: Store, Load, Cas: contracts.
-/
import Derived.Test.YtmfpfebnlflfiabMemT
set_option linter.unusedVariables false
set_option linter.unusedSimpArgs false
namespace Go.Proofs.Ytmfpfebnlflfiab
open Go Go.RowKit
attribute [local go_sem ↓] Go.wp_at_zero Go.wp_at_succ

/-- The document's list of changes, as it lies. -/
structure ListAt (w : World) (B : Nat) (v : Value) (l : List Ch) : Prop where
  own : w.ownsRow B 42 3 v l.length (cellsC l)
  nil : l = [] → v = .slice none 0 0
theorem ListAt.below {w w' : World} {B : Nat} {v : Value} {l : List Ch} (h : ListAt w B v l) (hb : Below w.heap.size w w') : ListAt w' B v l := ⟨own_below h.own hb, h.nil⟩
theorem ListAt.mono {w : World} {B B' : Nat} {v : Value} {l : List Ch} (h : ListAt w B v l) (hb : B' ≤ B) : ListAt w B' v l := ⟨own_mono h.own hb, h.nil⟩
theorem ListAt.drew {w : World} {B : Nat} {v : Value} {l : List Ch} (h : ListAt w B v l) : ListAt w.drew B v l := ⟨h.own, h.nil⟩

theorem rmStore_yes (B n t : Nat) (v : Value) (l : List Ch) (hl : l.length ≤ 1000) (ht : t < 1000000000) (k x : Nat) (hk : k < n) (w : World) (ho : ListAt w B v l) (hB : B ≤ w.heap.size) :
    Calls Try.prog 14 #[memV n t v, .int .i64 k, .int .u64 x] w fun e w' => (∃ v', e = .returned (memV n (t + 1) v') ∧ ListAt w' w.heap.size v' (l ++ [(k, x, t + 1)])) ∧ Below w.heap.size w w' := by
  by_cases h0 : 0 < l.length
  · refine (rmStore_some B n t v l hl h0 ht k x hk w ho.own hB).mono ?_
    rintro e w' ⟨⟨v', rfl, h⟩, hb⟩
    exact ⟨⟨v', rfl, ⟨by rw [List.length_append]; exact h, fun e => absurd e (by simp)⟩⟩, hb⟩
  · obtain rfl : l = [] := List.length_eq_zero_iff.1 (by omega)
    rw [ho.nil rfl]
    refine (rmStore_none n t ht k x hk w).mono ?_
    rintro e w' ⟨⟨v', rfl, h⟩, hb⟩
    exact ⟨⟨v', rfl, ⟨h, fun e => absurd e (by simp)⟩⟩, hb⟩

theorem results_load (tmps : Array Value) (w : World) (B : Nat) (a b c : Value) (h : Tri w B 29 a b c) (h2 : tmps.getD 4 undef = .pointer (some ⟨B, 0, none⟩)) :
    (results Try.f11 tmps).run Try.prog w = .ok (.tuple #[.agg #[a, b, c], tmps.getD 5 undef]) w := by
  obtain ⟨c0, c1, c2, _⟩ := h.cell
  have h2' : tmps[4]?.getD undef = .pointer (some ⟨B, 0, none⟩) := by simpa using h2
  simp [results, Try.f11, go_sem, h2', c0, c1, c2]
theorem results_cas (tmps : Array Value) (w : World) (B : Nat) (a b c : Value) (h : Tri w B 29 a b c) (h2 : tmps.getD 8 undef = .pointer (some ⟨B, 0, none⟩)) :
    (results Try.f15 tmps).run Try.prog w = .ok (.tuple #[.agg #[a, b, c], tmps.getD 9 undef]) w := by
  obtain ⟨c0, c1, c2, _⟩ := h.cell
  have h2' : tmps[8]?.getD undef = .pointer (some ⟨B, 0, none⟩) := by simpa using h2
  simp [results, Try.f15, go_sem, h2', c0, c1, c2]

/-- The two structs that a call has made: the parameter's copy, the result's. -/
theorem two_blocks (w : World) (a b c : Value) : Tri ((w.alloc (.cells #[a, b, c] 29)).alloc (.cells #[.int .i64 0, .int .u64 0, .slice none 0 0] 29)) w.heap.size 29 a b c ∧
    Tri ((w.alloc (.cells #[a, b, c] 29)).alloc (.cells #[.int .i64 0, .int .u64 0, .slice none 0 0] 29)) (w.heap.size + 1) 29 (.int .i64 0) (.int .u64 0) (.slice none 0 0) ∧
    Below w.heap.size w ((w.alloc (.cells #[a, b, c] 29)).alloc (.cells #[.int .i64 0, .int .u64 0, .slice none 0 0] 29)) := by
  refine ⟨?_, ?_, ((Below.refl _ _).alloc (Nat.le_refl _) _).alloc (by simp) _⟩
  · have hw := Tri.new w 29 a b c
    exact hw.below ((Below.refl _ _).alloc (Nat.le_refl _) _) hw.lt
  · have hw := Tri.new (w.alloc (.cells #[a, b, c] 29)) 29 (.int .i64 0) (.int .u64 0) (.slice none 0 0)
    rw [World.size_alloc] at hw
    exact hw

set_option maxRecDepth 20000 in
set_option maxHeartbeats 1000000 in
theorem rmStore_no (n t : Nat) (ad : Option Addr) (N cp : Nat) (i : Int) (x : Nat) (hi : i < 0 ∨ (n : Int) ≤ i) (w : World) :
    Calls Try.prog 14 #[memV n t (.slice ad N cp), .int .i64 i, .int .u64 x] w fun e w' => e = .returned (memV n t (.slice ad N cp)) ∧ Below w.heap.size w w' := by
  have C1 := Lib.hid (rmHas_no n t (.slice ad N cp) i hi)
  clear hi
  obtain ⟨T1, T2, TB⟩ := two_blocks w (.int .i64 n) (.int .u64 t) (.slice ad N cp)
  have HT1 := Lib.hid T1
  have HT2 := Lib.hid T2
  have HTB := Lib.hid TB
  clear T1 T2 TB
  unfold memV at *
  go_enter Try.func14, Try.ntmps14
  go_wp2_with fail
  refine (C1.out _).mono ?_
  rintro e w1 ⟨rfl, hb1⟩
  have t1 := HT1.out.below hb1 (by simp only [World.size_alloc]; omega)
  have t2 := HT2.out.below hb1 (by simp only [World.size_alloc]; omega)
  have HB : Hid (Below w.heap.size w w1) := HTB.out.trans (hb1.mono (by simp only [World.size_alloc]; omega))
  obtain ⟨a0, a1, a2, _, _, _⟩ := t1.cell
  obtain ⟨_, _, _, d0, d1, d2⟩ := t2.cell
  obtain ⟨e0, e1, e2, _⟩ := t2.cell
  have HF := Lib.hid (((t2.set0 (.int .i64 n)).set1 (.int .u64 t)).set2 (.slice ad N cp))
  clear t1 t2 hb1
  go_wp2_with fail
  refine bodyPost_ret (results_store _ _ _ _ _ _ HF.out rfl) rfl ⟨rfl, ?_⟩
  exact ((HB.out.setCell (p := ⟨_, 0, none⟩) (Nat.le_succ _) _).setCell (p := ⟨_, 1, none⟩) (Nat.le_succ _) _).setCell (p := ⟨_, 2, none⟩) (Nat.le_succ _) _

set_option maxRecDepth 20000 in
set_option maxHeartbeats 1000000 in
theorem rmLoad_no (n t : Nat) (ad : Option Addr) (N cp : Nat) (i : Int) (hi : i < 0 ∨ (n : Int) ≤ i) (w : World) :
    Calls Try.prog 11 #[memV n t (.slice ad N cp), .int .i64 i] w fun e w' => e = .returned (.tuple #[memV n t (.slice ad N cp), .int .u64 0]) ∧ Below w.heap.size w w' := by
  have C1 := Lib.hid (rmHas_no n t (.slice ad N cp) i hi)
  clear hi
  obtain ⟨T1, T2, TB⟩ := two_blocks w (.int .i64 n) (.int .u64 t) (.slice ad N cp)
  have HT1 := Lib.hid T1
  have HT2 := Lib.hid T2
  have HTB := Lib.hid TB
  clear T1 T2 TB
  unfold memV at *
  go_enter Try.func11, Try.ntmps11
  go_wp2_with fail
  refine (C1.out _).mono ?_
  rintro e w1 ⟨rfl, hb1⟩
  have t1 := HT1.out.below hb1 (by simp only [World.size_alloc]; omega)
  have t2 := HT2.out.below hb1 (by simp only [World.size_alloc]; omega)
  have HB : Hid (Below w.heap.size w w1) := HTB.out.trans (hb1.mono (by simp only [World.size_alloc]; omega))
  obtain ⟨a0, a1, a2, _, _, _⟩ := t1.cell
  obtain ⟨e0, e1, e2, d0, d1, d2⟩ := t2.cell
  have HF := Lib.hid (((t2.set0 (.int .i64 n)).set1 (.int .u64 t)).set2 (.slice ad N cp))
  clear t1 t2 hb1
  go_wp2_with fail
  refine bodyPost_ret (results_load _ _ _ _ _ _ HF.out rfl) rfl ⟨rfl, ?_⟩
  exact ((HB.out.setCell (p := ⟨_, 0, none⟩) (Nat.le_succ _) _).setCell (p := ⟨_, 1, none⟩) (Nat.le_succ _) _).setCell (p := ⟨_, 2, none⟩) (Nat.le_succ _) _

@[local go_sem] theorem field_v (a b c : Int) (w : World) : (Instr.field 42 (.agg #[.int .i64 a, .int .u64 b, .int .u64 c]) 1).run Try.prog w = .ok (.int .u64 b) w := by kernel_rfl
@[local go_sem] theorem field_t (a b c : Int) (w : World) : (Instr.field 42 (.agg #[.int .i64 a, .int .u64 b, .int .u64 c]) 2).run Try.prog w = .ok (.int .u64 c) w := by kernel_rfl
/-- What stands while the word is looked up. -/
structure Mid (w0 : World) (n : Nat) (t1 : Int) (v : Value) (B : Nat) (l : List Ch) (w : World) : Prop where
  below : Below w0.heap.size w0 w
  arg : Tri w w0.heap.size 29 (.int .i64 n) (.int .u64 t1) v
  res : ∃ a b c, Tri w (w0.heap.size + 1) 29 a b c
  list : ListAt w B v l
  le : ∀ k, v.ownBlock = some k → k < w0.heap.size
theorem Mid.cells {w0 : World} {n : Nat} {t1 : Int} {v : Value} {B : Nat} {l : List Ch} {w : World} (h : Mid w0 n t1 v B l w) :
    w.cell? ⟨w0.heap.size, 0, none⟩ = some (.int .i64 n) ∧ w.cell? ⟨w0.heap.size, 1, none⟩ = some (.int .u64 t1) ∧ w.cell? ⟨w0.heap.size, 2, none⟩ = some v ∧ Mid w0 n t1 v B l w := ⟨h.arg.cell.1, h.arg.cell.2.1, h.arg.cell.2.2.1, h⟩
theorem Mid.of4 {w0 : World} {n : Nat} {t1 : Int} {v : Value} {B : Nat} {l : List Ch} {w : World} (h : w.cell? ⟨w0.heap.size, 0, none⟩ = some (.int .i64 n) ∧ w.cell? ⟨w0.heap.size, 1, none⟩ = some (.int .u64 t1) ∧ w.cell? ⟨w0.heap.size, 2, none⟩ = some v ∧ Mid w0 n t1 v B l w) : Mid w0 n t1 v B l w := h.2.2.2
theorem Mid.drew {w0 : World} {n : Nat} {t1 : Int} {v : Value} {B : Nat} {l : List Ch} {w : World} (h : Mid w0 n t1 v B l w) : Mid w0 n t1 v B l w.drew := ⟨h.below.drew, h.arg, h.res, h.list.drew, h.le⟩
theorem Mid.later {w0 : World} {n : Nat} {t1 : Int} {v : Value} {B : Nat} {l : List Ch} {w w' : World} (h : Mid w0 n t1 v B l w) (hb : Below w.heap.size w w') : Mid w0 n t1 v B l w' := by
  obtain ⟨a, b, c, hr⟩ := h.res
  exact ⟨h.below.trans (hb.mono h.below.size), h.arg.below hb h.arg.lt, ⟨a, b, c, hr.below hb hr.lt⟩, h.list.below hb, h.le⟩
theorem Mid.set {w0 : World} {n : Nat} {t1 : Int} {v : Value} {B : Nat} {l : List Ch} {w : World} (h : Mid w0 n t1 v B l w) (x y z : Value) : Mid w0 n t1 v B l (((w.setCell ⟨w0.heap.size + 1, 0, none⟩ x).setCell ⟨w0.heap.size + 1, 1, none⟩ y).setCell ⟨w0.heap.size + 1, 2, none⟩ z) := by
  obtain ⟨a, b, c, hr⟩ := h.res
  have hk : v.ownBlock ≠ some (w0.heap.size + 1) := fun e => by have := h.le _ e; omega
  refine ⟨((h.below.setCell (p := ⟨_, 0, none⟩) (Nat.le_succ _) _).setCell (p := ⟨_, 1, none⟩) (Nat.le_succ _) _).setCell (p := ⟨_, 2, none⟩) (Nat.le_succ _) _, ?_, ⟨x, y, z, ((hr.set0 x).set1 y).set2 z⟩, ⟨?_, h.list.nil⟩, h.le⟩
  · exact ((h.arg.later (Below.heap_setCell _ _ _ _ (by simp))).later (Below.heap_setCell _ _ _ _ (by simp))).later (Below.heap_setCell _ _ _ _ (by simp))
  · exact ownsRow_setCell_other (ownsRow_setCell_other (ownsRow_setCell_other h.list.own hk _) hk _) hk _

set_option maxRecDepth 20000 in
set_option maxHeartbeats 2000000 in
theorem rmLoad_yes (B n t : Nat) (v : Value) (l : List Ch) (hl : l.length ≤ 1000) (ht : t < 1000000000) (k : Nat) (hk : k < n) (w : World) (ho : ListAt w B v l) :
    Calls Try.prog 11 #[memV n t v, .int .i64 k] w fun e w' => e = .returned (.tuple #[memV n (t + 1) v, .int .u64 (lastC l k).2.1]) ∧ Below w.heap.size w w' := by
  obtain ⟨ad, cp, rfl⟩ := own_form ho.own
  obtain ⟨N, hN⟩ : ∃ N, N = l.length := ⟨_, rfl⟩
  rw [← hN] at ho hl ⊢
  have C1 := Lib.hid (rmHas_yes n t (.slice ad N cp) k hk)
  have C2 := Lib.hid (fun (w' : World) (h : ListAt w' B (.slice ad N cp) l) => rmLast_c B n (t + 1) (.slice ad N cp) l (by omega) k w' h.own)
  obtain ⟨T1, T2, TB⟩ := two_blocks w (.int .i64 n) (.int .u64 t) (.slice ad N cp)
  have HT1 := Lib.hid T1
  have HT2 := Lib.hid T2
  have HTB := Lib.hid TB
  have HLE : Hid (∀ k, (Value.slice ad N cp).ownBlock = some k → k < w.heap.size) := fun k e => (ho.own.lt k e).2
  have HO := Lib.hid (ho.below TB)
  obtain ⟨X, hX⟩ : ∃ X, X = lastC l k := ⟨_, rfl⟩
  rw [← hX] at C2 ⊢
  clear T1 T2 TB ho hX hl hN
  unfold memV chV at *
  go_enter Try.func11, Try.ntmps11
  go_wp2_with fail
  refine (C1.out _).mono ?_
  rintro e w1 ⟨rfl, hb1⟩
  have t1 := HT1.out.below hb1 (by simp only [World.size_alloc]; omega)
  have t2 := HT2.out.below hb1 (by simp only [World.size_alloc]; omega)
  have hB : Below w.heap.size w w1 := HTB.out.trans (hb1.mono (by simp only [World.size_alloc]; omega))
  have hM : Mid w n ((t : Int) + 1) (.slice ad N cp) B l (w1.setCell ⟨w.heap.size, 1, none⟩ (.int .u64 ((t : Int) + 1))) := by
    refine ⟨hB.setCell (p := ⟨w.heap.size, 1, none⟩) (Nat.le_refl _) _, t1.set1 _, ⟨_, _, _, t2.later (Below.heap_setCell _ _ _ _ (by simp))⟩, ⟨?_, (HO.out.below hb1).nil⟩, HLE.out⟩
    exact ownsRow_setCell_other (HO.out.below hb1).own (fun e => absurd (HLE.out _ e) (Nat.lt_irrefl _)) _
  obtain ⟨a0, a1, a2, b0, b1, b2⟩ := t1.cell
  have HM := Lib.hid hM
  clear t1 t2 hM hB hb1
  go_wp2_with fail
  clear a0 a1 a2 b0 b1 b2
  have HM2 := HM.out
  clear HM
  generalize w1.setCell ⟨w.heap.size, 1, none⟩ (.int .u64 ((t : Int) + 1)) = W at HM2 ⊢
  have q0 : w.heap.size < W.heap.size := HM2.arg.lt
  go_region_held3 (fun w' => w'.cell? ⟨w.heap.size, 0, none⟩ = some (.int .i64 n) ∧ w'.cell? ⟨w.heap.size, 1, none⟩ = some (.int .u64 ((t : Int) + 1)) ∧ w'.cell? ⟨w.heap.size, 2, none⟩ = some (.slice ad N cp) ∧ Mid w n ((t : Int) + 1) (.slice ad N cp) B l w')
    (first | exact HM2.drew.cells | assumption | (go_split_ands; exact Mid.cells (by assumption)) | (go_split_ands; exact (Mid.set (by assumption) _ _ _).cells))
    ((go_at_call 19; refine (C2.out _ (Mid.of4 (by assumption)).list).mono ?_; rintro e w2 ⟨rfl, hb2⟩; have hM3 : Mid w n ((t : Int) + 1) (.slice ad N cp) B l w2 := (Mid.of4 (by assumption)).later hb2; obtain ⟨p0, p1, p2, p3⟩ := hM3.res; obtain ⟨e0, e1, e2, d0, d1, d2⟩ := p3.cell))
  go_wp2_with fail
  refine bodyPost_ret (results_load _ _ _ _ _ _ (((p3.set0 (.int .i64 n)).set1 (.int .u64 ((t : Int) + 1))).set2 (.slice ad N cp)) rfl) rfl ⟨rfl, ?_⟩
  exact ((hM3.below.setCell (p := ⟨_, 0, none⟩) (Nat.le_succ _) _).setCell (p := ⟨_, 1, none⟩) (Nat.le_succ _) _).setCell (p := ⟨_, 2, none⟩) (Nat.le_succ _) _

set_option maxRecDepth 20000 in
set_option maxHeartbeats 1000000 in
theorem rmCas_no (n t : Nat) (ad : Option Addr) (N cp : Nat) (i : Int) (o x : Nat) (hi : i < 0 ∨ (n : Int) ≤ i) (w : World) :
    Calls Try.prog 15 #[memV n t (.slice ad N cp), .int .i64 i, .int .u64 o, .int .u64 x] w fun e w' => e = .returned (.tuple #[memV n t (.slice ad N cp), .bool false]) ∧ Below w.heap.size w w' := by
  have C1 := Lib.hid (rmHas_no n t (.slice ad N cp) i hi)
  clear hi
  obtain ⟨T1, T2, TB⟩ := two_blocks w (.int .i64 n) (.int .u64 t) (.slice ad N cp)
  have HT1 := Lib.hid T1
  have HT2 := Lib.hid T2
  have HTB := Lib.hid TB
  clear T1 T2 TB
  unfold memV at *
  go_enter Try.func15, Try.ntmps15
  go_wp2_with fail
  refine (C1.out _).mono ?_
  rintro e w1 ⟨rfl, hb1⟩
  have t1 := HT1.out.below hb1 (by simp only [World.size_alloc]; omega)
  have t2 := HT2.out.below hb1 (by simp only [World.size_alloc]; omega)
  have HB : Hid (Below w.heap.size w w1) := HTB.out.trans (hb1.mono (by simp only [World.size_alloc]; omega))
  obtain ⟨a0, a1, a2, _, _, _⟩ := t1.cell
  obtain ⟨e0, e1, e2, d0, d1, d2⟩ := t2.cell
  have HF := Lib.hid (((t2.set0 (.int .i64 n)).set1 (.int .u64 t)).set2 (.slice ad N cp))
  clear t1 t2 hb1
  go_wp2_with fail
  refine bodyPost_ret (results_cas _ _ _ _ _ _ HF.out rfl) rfl ⟨rfl, ?_⟩
  exact ((HB.out.setCell (p := ⟨_, 0, none⟩) (Nat.le_succ _) _).setCell (p := ⟨_, 1, none⟩) (Nat.le_succ _) _).setCell (p := ⟨_, 2, none⟩) (Nat.le_succ _) _

set_option maxRecDepth 20000 in
set_option maxHeartbeats 2000000 in
theorem rmCas_other (B n t : Nat) (v : Value) (l : List Ch) (hl : l.length ≤ 1000) (ht : t < 1000000000) (k o x : Nat) (hk : k < n) (w : World) (ho : ListAt w B v l) (he : (lastC l k).2.1 ≠ o) :
    Calls Try.prog 15 #[memV n t v, .int .i64 k, .int .u64 o, .int .u64 x] w fun e w' => e = .returned (.tuple #[memV n (t + 1) v, .bool false]) ∧ Below w.heap.size w w' := by
  obtain ⟨ad, cp, rfl⟩ := own_form ho.own
  obtain ⟨N, hN⟩ : ∃ N, N = l.length := ⟨_, rfl⟩
  rw [← hN] at ho hl ⊢
  have C1 := Lib.hid (rmHas_yes n t (.slice ad N cp) k hk)
  have C2 := Lib.hid (fun (w' : World) (h : ListAt w' B (.slice ad N cp) l) => rmLast_c B n t (.slice ad N cp) l (by omega) k w' h.own)
  obtain ⟨T1, T2, TB⟩ := two_blocks w (.int .i64 n) (.int .u64 t) (.slice ad N cp)
  have HT1 := Lib.hid T1
  have HT2 := Lib.hid T2
  have HTB := Lib.hid TB
  have HO := Lib.hid (ho.below TB)
  obtain ⟨X, hX⟩ : ∃ X, X = lastC l k := ⟨_, rfl⟩
  rw [← hX] at C2 he
  have e1 : ((X.2.1 : Int) != (o : Int)) = true := by rw [bne_iff_ne]; omega
  have e2 : ((X.2.1 : Int) == (o : Int)) = false := by rw [beq_eq_false_iff_ne]; omega
  clear T1 T2 TB ho hX hl hN he
  unfold memV chV at *
  go_enter Try.func15, Try.ntmps15
  go_wp2_with fail
  refine (C1.out _).mono ?_
  rintro e w1 ⟨rfl, hb1⟩
  have HT3 := Lib.hid (HT1.out.below hb1 (by simp only [World.size_alloc]; omega))
  have HT4 := Lib.hid (HT2.out.below hb1 (by simp only [World.size_alloc]; omega))
  have HB1 : Hid (Below w.heap.size w w1) := HTB.out.trans (hb1.mono (by simp only [World.size_alloc]; omega))
  have HO1 := Lib.hid (HO.out.below hb1)
  obtain ⟨a0, a1, a2, _, _, _⟩ := HT3.out.cell
  clear hb1 HT1 HT2
  go_wp2_with fail
  clear a0 a1 a2
  refine (C2.out _ HO1.out).mono ?_
  rintro e w2 ⟨rfl, hb2⟩
  have t1 := HT3.out.below hb2 HT3.out.lt
  have t2 := HT4.out.below hb2 HT4.out.lt
  have HB2 : Hid (Below w.heap.size w w2) := HB1.out.trans (hb2.mono HB1.out.size)
  obtain ⟨a0, a1, a2, b0, b1, b2⟩ := t1.cell
  have t3 := t1.set1 (.int .u64 ((t : Int) + 1))
  have t4 : Tri (w2.setCell ⟨w.heap.size, 1, none⟩ (.int .u64 ((t : Int) + 1))) (w.heap.size + 1) _ _ _ _ := t2.later (Below.heap_setCell _ _ _ _ (by simp))
  obtain ⟨c0, c1, c2, _⟩ := t3.cell
  obtain ⟨e3, e4, e5, d0, d1, d2⟩ := t4.cell
  have HF := Lib.hid (((t4.set0 (.int .i64 n)).set1 (.int .u64 ((t : Int) + 1))).set2 (.slice ad N cp))
  clear t1 t2 t3 t4 hb2
  go_wp2_with fail
  refine bodyPost_ret (results_cas _ _ _ _ _ _ HF.out rfl) rfl ⟨rfl, ?_⟩
  exact (((HB2.out.setCell (p := ⟨w.heap.size, 1, none⟩) (Nat.le_refl _) _).setCell (p := ⟨_, 0, none⟩) (Nat.le_succ _) _).setCell (p := ⟨_, 1, none⟩) (Nat.le_succ _) _).setCell (p := ⟨_, 2, none⟩) (Nat.le_succ _) _

set_option maxRecDepth 20000 in
set_option maxHeartbeats 2000000 in
theorem rmCas_yes (B n t : Nat) (v : Value) (l : List Ch) (hl : l.length ≤ 1000) (ht : t < 1000000000) (k o x : Nat) (hk : k < n) (w : World) (ho : ListAt w B v l) (hB : B ≤ w.heap.size) (he : (lastC l k).2.1 = o) :
    Calls Try.prog 15 #[memV n t v, .int .i64 k, .int .u64 o, .int .u64 x] w fun e w' => (∃ v', e = .returned (.tuple #[memV n (t + 1) v', .bool true]) ∧ ListAt w' w.heap.size v' (l ++ [(k, x, t + 1)])) ∧ Below w.heap.size w w' := by
  obtain ⟨ad, cp, rfl⟩ := own_form ho.own
  obtain ⟨N, hN⟩ : ∃ N, N = l.length := ⟨_, rfl⟩
  rw [← hN] at ho hl ⊢
  have C1 := Lib.hid (rmHas_yes n t (.slice ad N cp) k hk)
  have C2 := Lib.hid (fun (w' : World) (h : ListAt w' B (.slice ad N cp) l) => rmLast_c B n t (.slice ad N cp) l (by omega) k w' h.own)
  have C3 := Lib.hid (fun (w' : World) (h : ListAt w' B (.slice ad N cp) l) (hB : B ≤ w'.heap.size) => rmStore_yes B n t (.slice ad N cp) l (by omega) ht k x hk w' h hB)
  obtain ⟨T1, T2, TB⟩ := two_blocks w (.int .i64 n) (.int .u64 t) (.slice ad N cp)
  have HT1 := Lib.hid T1
  have HT2 := Lib.hid T2
  have HTB := Lib.hid TB
  have HO := Lib.hid (ho.below TB)
  obtain ⟨X, hX⟩ : ∃ X, X = lastC l k := ⟨_, rfl⟩
  rw [← hX] at C2 he
  subst he
  clear T1 T2 TB ho hX hl hN
  unfold memV chV at *
  go_enter Try.func15, Try.ntmps15
  go_wp2_with fail
  refine (C1.out _).mono ?_
  rintro e w1 ⟨rfl, hb1⟩
  have HT3 := Lib.hid (HT1.out.below hb1 (by simp only [World.size_alloc]; omega))
  have HT4 := Lib.hid (HT2.out.below hb1 (by simp only [World.size_alloc]; omega))
  have HB1 : Hid (Below w.heap.size w w1) := HTB.out.trans (hb1.mono (by simp only [World.size_alloc]; omega))
  have HO1 := Lib.hid (HO.out.below hb1)
  obtain ⟨a0, a1, a2, _, _, _⟩ := HT3.out.cell
  clear hb1 HT1 HT2
  go_wp2_with fail
  clear a0 a1 a2
  refine (C2.out _ HO1.out).mono ?_
  rintro e w2 ⟨rfl, hb2⟩
  have HT5 := Lib.hid (HT3.out.below hb2 HT3.out.lt)
  have HT6 := Lib.hid (HT4.out.below hb2 HT4.out.lt)
  have HB2 : Hid (Below w.heap.size w w2) := HB1.out.trans (hb2.mono HB1.out.size)
  have HO2 := Lib.hid (HO1.out.below hb2)
  obtain ⟨a0, a1, a2, _, _, _⟩ := HT5.out.cell
  clear hb2 HT3 HT4 HO1
  go_wp2_with fail
  clear a0 a1 a2
  refine (C3.out _ HO2.out (Nat.le_trans hB HB2.out.size)).mono ?_
  rintro e w3 ⟨⟨v', rfl, ho3⟩, hb3⟩
  obtain ⟨ad', cp', hv'⟩ := own_form ho3.own
  obtain ⟨M, hM⟩ : ∃ M, M = (l ++ [(k, x, t + 1)]).length := ⟨_, rfl⟩
  rw [← hM] at hv'
  subst hv'
  clear hM
  have HO3 := Lib.hid ho3
  have t6 := HT6.out.below hb3 HT6.out.lt
  have HB3 : Hid (Below w.heap.size w w3) := HB2.out.trans (hb3.mono HB2.out.size)
  obtain ⟨e3, e4, e5, d0, d1, d2⟩ := t6.cell
  have HF := Lib.hid (((t6.set0 (.int .i64 n)).set1 (.int .u64 ((t + 1 : Nat) : Int))).set2 (.slice ad' M cp'))
  have HW : Hid (w.heap.size + 1 < w2.heap.size) := HT6.out.lt
  clear t6 hb3 ho3 HT5 HT6 hB
  go_wp2_with fail
  refine bodyPost_ret (results_cas _ _ _ _ _ _ HF.out rfl) rfl ⟨⟨_, rfl, ?_⟩, ?_⟩
  · refine ⟨?_, HO3.out.nil⟩
    have hk : ∀ i, i < w2.heap.size → Value.ownBlock (.slice ad' M cp') ≠ some i := fun i hi e => by have := (HO3.out.own.lt i e).1; omega
    exact own_mono (ownsRow_setCell_other (ownsRow_setCell_other (ownsRow_setCell_other HO3.out.own (hk _ HW.out) _) (hk _ HW.out) _) (hk _ HW.out) _) (by have := HB2.out.size; exact this)
  · exact ((HB3.out.setCell (p := ⟨_, 0, none⟩) (Nat.le_succ _) _).setCell (p := ⟨_, 1, none⟩) (Nat.le_succ _) _).setCell (p := ⟨_, 2, none⟩) (Nat.le_succ _) _
end Go.Proofs.Ytmfpfebnlflfiab

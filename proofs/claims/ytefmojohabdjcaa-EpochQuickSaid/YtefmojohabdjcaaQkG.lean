/-
  Acts of readers that are gathered in a row, one by one.
-/
import Derived.Test.YtefmojohabdjcaaQkP
import Derived.Maps.AppendAt
set_option linter.unusedVariables false
set_option linter.unusedSimpArgs false
namespace Go.Proofs.Ytefmojohabdjcaa
open Go Go.RowKit

def paRow (pb : Nat → Nat) (k : Nat) : List Value := (List.range k).map fun i => pa (pb i)
theorem paRow_len (pb : Nat → Nat) (k : Nat) : (paRow pb k).length = k := by simp [paRow]
theorem paRow_at (pb : Nat → Nat) {k i : Nat} (h : i < k) : (paRow pb k)[i]? = some (pa (pb i)) := by simp [paRow, h]
theorem paRow_succ (pb : Nat → Nat) (k A : Nat) : paRow (put1 pb k A) (k + 1) = paRow pb k ++ [pa A] := by
  unfold paRow
  rw [List.range_succ, List.map_append, List.map_singleton, put1_same]
  congr 1
  refine List.map_congr_left fun i hi => ?_
  rw [put1_other _ _ (by have := List.mem_range.1 hi; omega)]
/-- k acts of readers, in a row. -/
structure Gath (W : World) (p : EP) (f k : Nat) (pb b : Nat → Nat) (v : Value) (wr : World) : Prop where
  act : ∀ i, i < k → ActAt wr (pb i) (fv f (capP (b i))) 0
  box : ∀ i, i < k → PB p wr (b i) i
  ge : ∀ i, i < k → W.heap.size ≤ pb i ∧ W.heap.size ≤ b i
  inj : ∀ i j, i < k → j < k → i ≠ j → pb i ≠ pb j
  row : wr.ownsRow W.heap.size 56 1 v k (paRow pb k)
  bel : Below W.heap.size W wr
variable {W wr w2 w3 : World} {p : EP} {s : ES} {f k A B : Nat} {pb b : Nat → Nat} {v v3 : Value}
theorem Gath.nil (W : World) (p : EP) (f : Nat) : Gath W p f 0 (fun _ => 0) (fun _ => 0) (.slice none 0 0) W :=
  ⟨fun i hi => absurd hi (Nat.not_lt_zero _), fun i hi => absurd hi (Nat.not_lt_zero _), fun i hi => absurd hi (Nat.not_lt_zero _), fun i j hi => absurd hi (Nat.not_lt_zero _), World.ownsRow_nil _ _ _ _, Below.refl _ _⟩
theorem Gath.below (h : Gath W p f k pb b v wr) (hb : Below wr.heap.size wr w2) : Gath W p f k pb b v w2 :=
  { h with
    act := fun i hi => (h.act i hi).below hb (h.act i hi).lt
    box := fun i hi => (h.box i hi).later fun k hk => hb.block k (by rcases hk with rfl | rfl; exact (h.box i hi).b0.lt; exact (h.box i hi).b1.lt)
    row := own_same h.row fun k hk => hb.block k (h.row.lt k hk).2
    bel := h.bel.trans (hb.mono h.bel.size) }
theorem Gath.add (h : Gath W p f k pb b v wr) (hA : wr.heap.size ≤ A) (hB : wr.heap.size ≤ B) (ha : ActAt w2 A (fv f (capP B)) 0) (hp : PB p w2 B k) (hb : Below wr.heap.size wr w2) (o : Obj)
    (hown : w3.ownsRow W.heap.size 56 1 v3 (k + 1) (paRow pb k ++ [pa A])) (hg : (w2.alloc o).grownBy w3 v.ownBlock) : Gath W p f (k + 1) (put1 pb k A) (put1 b k B) v3 w3 := by
  have h2 := h.below hb
  have h3 := h2.below ((Below.refl w2.heap.size w2).alloc (Nat.le_refl _) o)
  have ha3 : ActAt (w2.alloc o) A (fv f (capP B)) 0 := ha.below ((Below.refl w2.heap.size w2).alloc (Nat.le_refl _) o) ha.lt
  have hp3 : PB p (w2.alloc o) B k := hp.later fun k hk => Below.heap_alloc _ _ _ (by rcases hk with rfl | rfl; exact hp.b0.lt; exact hp.b1.lt)
  have key : ∀ (q : Nat) (c : Array Value) (t : TypeId) (fz : Nat × Nat), (w2.alloc o).heap[q]? = some (Obj.cells c t fz) → t ≠ 56 → w3.heap[q]? = (w2.alloc o).heap[q]? := fun q c t fz hq ht => hg.block q (Array.getElem?_eq_some_iff.1 hq).1 fun e => by
    obtain ⟨c', hc'⟩ := own_cells h3.row e.symm
    exact block_ne hq hc' ht rfl
  have hs := h.bel.size
  refine ⟨fun i hi => ?_, fun i hi => ?_, fun i hi => ?_, fun i j hi hj hne => ?_, ?_, ?_⟩
  · by_cases hik : i = k
    · subst hik; rw [put1_same, put1_same]; exact ha3.later (key _ _ _ _ ha3 (by decide))
    · rw [put1_other _ _ hik, put1_other _ _ hik]
      have := h3.act i (by omega)
      exact this.later (key _ _ _ _ this (by decide))
  · by_cases hik : i = k
    · subst hik; rw [put1_same]
      exact hp3.later fun q hq => by rcases hq with rfl | rfl; exact key _ _ _ _ hp3.b0 (by decide); exact key _ _ _ _ hp3.b1 (by decide)
    · rw [put1_other _ _ hik]
      have := h3.box i (by omega)
      exact this.later fun q hq => by rcases hq with rfl | rfl; exact key _ _ _ _ this.b0 (by decide); exact key _ _ _ _ this.b1 (by decide)
  · by_cases hik : i = k
    · subst hik; rw [put1_same, put1_same]; omega
    · rw [put1_other _ _ hik, put1_other _ _ hik]; exact h.ge i (by omega)
  · have lt : ∀ i, i < k → pb i < wr.heap.size := fun i hi => (h.act i hi).lt
    by_cases hik : i = k
    · by_cases hjk : j = k
      · omega
      · subst hik; rw [put1_same, put1_other _ _ hjk]; have := lt j (by omega); omega
    · by_cases hjk : j = k
      · subst hjk; rw [put1_same, put1_other _ _ hik]; have := lt i (by omega); omega
      · rw [put1_other _ _ hik, put1_other _ _ hjk]; exact h.inj i j (by omega) (by omega) hne
  · rw [paRow_succ]; exact hown
  · exact h3.bel.grown hg h3.bel.size fun q hq => (h3.row.lt q hq).1
/-- They are a machine. -/
def qOf (p : EP) (k : Nat) (pb : Nat → Nat) : EQ := { p := p, N := k, pb := pb, Vo := none, va := .nilFunc }
def fQ (q : EQ) (s : ET) (b : Nat → Nat) (k : Nat) : Prop := fE q.p k ∨ q.Vo = some k ∨ (∃ i, i < q.N ∧ k = q.pb i) ∨ (∃ i, i < q.N ∧ boxN (b i) 0 k (s.pc i))
theorem Gath.em (h : Gath W p f k pb b v wr) (he : EpAt p s W) (hk : k ≤ p.R) (hw : s.ws p.word ≤ s.t) (pc : Nat → PC) (hpc : ∀ i, i < k → cloV p.R (b i) 0 (pc i) = fv f (capP (b i)) ∧ BoxOK p wr none (b i) 0 (pc i) ∧ okPC p s.t (pc i)) :
    EM (qOf p k pb) ⟨s, pc, fun _ => 0, false⟩ (fQ (qOf p k pb) ⟨s, pc, fun _ => 0, false⟩ b) wr b (fun _ => 0) :=
  ⟨fun k => Iff.rfl, he.below h.bel, fun i hi => by
    show ActAt wr (pb i) (cloV p.R (b i) 0 (pc i)) 0
    rw [(hpc i hi).1]; exact h.act i hi, fun i hi => (hpc i hi).2.1, fun i hi => (hpc i hi).2.2, fun V hV => (by cases hV), hw, fun i hi => Nat.zero_le _⟩
/-- What a machine may turn: blocks of these types. -/
theorem EM.tags {q : EQ} {s : ET} {F : Nat → Prop} {A : World} {b c : Nat → Nat} (h : EM q s F A b c) {k : Nat} (hk : F k) : ∃ c t fz, A.heap[k]? = some (.cells c t fz) ∧ (t = 92 ∨ t = 109 ∨ t = 95 ∨ t = 80 ∨ t = 106 ∨ t = 28 ∨ t = 3 ∨ t = 32 ∨ t = 73) := by
  rcases (h.foot k).1 hk with hE | hV | ⟨i, hi, rfl⟩ | ⟨i, hi, hb⟩
  · obtain ⟨cur, hp, _⟩ := h.ep.pin
    obtain ⟨c2, hm, _⟩ := h.ep.m
    rcases hE with rfl | rfl | rfl
    · exact ⟨_, _, _, h.ep.q, by simp⟩
    · exact ⟨_, _, _, hm, by simp⟩
    · exact ⟨_, _, _, hp, by simp⟩
  · exact ⟨_, _, _, h.mvat k hV, by simp⟩
  · exact ⟨_, _, _, h.act i hi, by simp⟩
  · obtain ⟨v, t, hc, ht⟩ := (h.box i hi).cells hb
    exact ⟨_, _, _, hc, by rcases ht with rfl | rfl | rfl | rfl <;> simp⟩
theorem EM.row_apart {q : EQ} {s : ET} {F : Nat → Prop} {A : World} {b c : Nat → Nat} (h : EM q s F A b c) {B n : Nat} {v : Value} {xs : List Value} (ho : A.ownsRow B 56 1 v n xs) : Apart F v := fun k hk hf => by
  obtain ⟨c', hc'⟩ := own_cells ho hk
  obtain ⟨c, t, fz, hc, ht⟩ := h.tags hf
  refine block_ne hc hc' ?_ rfl
  rcases ht with rfl | rfl | rfl | rfl | rfl | rfl | rfl | rfl | rfl <;> decide
theorem rest_cost {σ : Type} {m : Mach σ} (hm : m.Ok) (hN : m.N ≤ 20) (L : Nat) : ∀ s, m.cost (m.rest L s).1 ≤ m.cost s + 20 * L := by
  induction L with
  | zero => intro s; exact Nat.le_refl _
  | succ L ih =>
    intro s
    have h1 : m.cost (m.round s).1 ≤ m.cost s + m.N := hm.upto_cost s m.N
    unfold Mach.rest
    split
    · have := ih (m.round s).1; dsimp only; omega
    · dsimp only; omega
/-- All are pinned. -/
structure Q2 (W : World) (p : EP) (k : Nat) (pb : Nat → Nat) (pv : Value) (s : ES) (w : World) : Prop where
  ep : EpAt p s w
  nw : s.now = 0
  wd : s.ws p.word = 0
  pins : ∀ i, i < k → s.po i = true ∧ s.pe i = 0
  t : s.t ≤ 1000
  act : ∀ i, i < k → ActAt w (pb i) .nilFunc 3
  row : w.ownsRow 0 56 1 pv k (paRow pb k)
  bel : Below W.heap.size W w
  ge : ∀ k, fE p k → W.heap.size ≤ k
theorem Q2.below {pv : Value} {w w' : World} (h : Q2 W p k pb pv s w) (hb : Below w.heap.size w w') : Q2 W p k pb pv s w' :=
  { h with
    ep := h.ep.below hb
    act := fun i hi => (h.act i hi).below hb (h.act i hi).lt
    row := own_same h.row fun k hk => hb.block k (h.row.lt k hk).2
    bel := h.bel.trans (hb.mono h.bel.size) }
/-- The pins, turned and rested. -/
theorem quick_pins {w1 wr : World} {la pv : Value} {picks : List Int} (hE : EpAt p s w1) (hF : Fresh p s (1 + p.R)) (hg : Gath w1 p 33 p.R pb b pv wr) (h1 : 1 ≤ p.R) (h8 : p.R ≤ 8) (hB : Below W.heap.size W w1) (hge : ∀ k, fE p k → W.heap.size ≤ k)
    (hl : picks.length ≤ 200) (hp : RowAt W la (intsV picks)) :
    Calls Try.prog 22 #[la, pv] wr fun e w2 => (∃ n, e = .returned (.int .i64 n)) ∧ Calls Try.prog 23 #[.int .i64 8, pv] w2 fun e w3 => (∃ n, e = .returned (.int .i64 n)) ∧ ∃ s3, Q2 W p p.R pb pv s3 w3 := by
  have hM := hg.em hE (Nat.le_refl _) (by have := hF.ws 0 (by omega); rw [Nat.add_zero] at this; omega) (fun i => .pin0 i) (fun i hi => ⟨rfl, hg.box i hi, hi⟩)
  obtain ⟨q, hq⟩ : ∃ q, qOf p p.R pb = q := ⟨_, rfl⟩
  have qN : q.N = p.R := by rw [← hq]; rfl
  have qp : q.p = p := by rw [← hq]; rfl
  have qpb : q.pb = pb := by rw [← hq]; rfl
  have qV : q.Vo = none := by rw [← hq]; rfl
  obtain ⟨S, hS⟩ : ∃ S : ET, ⟨s, fun i => .pin0 i, fun _ => 0, false⟩ = S := ⟨_, rfl⟩
  have Ses : S.es = s := by rw [← hS]
  have Spc : ∀ i, S.pc i = .pin0 i := fun i => by rw [← hS]
  have Scn : ∀ i, S.cnt i = 0 := fun i => by rw [← hS]
  rw [hq, hS] at hM
  have hI : QI q S := by
    refine ⟨by rw [Ses]; exact hF.now, ?_, fun i hi => .inl ⟨Spc i, Scn i, by rw [Ses]; exact hF.po i⟩⟩
    rw [Ses, qp]
    have := hF.ws 0 (by omega)
    rw [Nat.add_zero] at this
    exact this
  have hok : (epMach q).Ok := epMach_ok (fun i j hi hj hne => by rw [qpb]; rw [qN] at hi hj; exact hg.inj i j hi hj hne)
  have hpr : ptrs (epMach q) = paRow pb p.R := by rw [← qN, ← qpb]; rfl
  have hcost : (epMach q).cost S ≤ 9 := by show S.es.t ≤ 9; rw [Ses, hF.t]; omega
  have hN : (epMach q).N ≤ 8 := by show q.N ≤ 8; omega
  have hbw : Below W.heap.size W wr := hB.trans (hg.bel.mono hB.size)
  have hFge : ∀ k, fQ q S b k → W.heap.size ≤ k := by
    have hs := hB.size
    intro k hk
    rcases hk with hf | hf | ⟨i, hi, rfl⟩ | ⟨i, hi, hf⟩
    · rw [qp] at hf; exact hge k hf
    · rw [qV] at hf; cases hf
    · rw [qpb]; rw [qN] at hi; have := (hg.ge i hi).1; omega
    · rw [Spc] at hf; rw [qN] at hi; have := (hg.ge i hi).2
      rcases hf with rfl | rfl <;> omega
  refine (turn_c hok (by omega) la pv picks (by omega) S _ wr ⟨_, _, hM⟩ (by omega) (hp.below hbw) (by rw [hpr]; exact RowAt.of_own hg.row (paRow_len _ _))).mono ?_
  rintro e w2 ⟨rfl, F', ⟨b2, c2, hM2⟩, hm2⟩
  obtain ⟨hrow2, hap2⟩ := own_moved hm2 hg.row (hM.row_apart hg.row)
  refine ⟨⟨_, rfl⟩, ?_⟩
  have hI2 := hI.turn (by omega) picks
  have hcost2 : (epMach q).cost ((epMach q).turn0 S picks).1 ≤ 209 := by
    unfold Mach.turn0
    rw [if_neg (by show ¬ q.N = 0; omega)]
    have := (hok.turn_cost S picks).1
    omega
  obtain ⟨S2, hS2⟩ : ∃ S2, ((epMach q).turn0 S picks).1 = S2 := ⟨_, rfl⟩
  rw [hS2] at hM2 hI2 hcost2
  refine (rest_c hok (by omega) pv 8 8 rfl (by omega) S2 F' w2 ⟨_, _, hM2⟩ (by omega) (by rw [hpr]; exact RowAt.of_own hrow2 (paRow_len _ _))).mono ?_
  rintro e w3 ⟨rfl, F3, ⟨b3, c3, hM3⟩, hm3⟩
  obtain ⟨hI3, hall⟩ := hI2.rested
  have hcost3 := rest_cost hok (by omega) 8 S2
  obtain ⟨hrow3, hap3⟩ := own_moved hm3 hrow2 hap2
  obtain ⟨S3, hS3⟩ : ∃ S3, ((epMach q).rest 8 S2).1 = S3 := ⟨_, rfl⟩
  rw [hS3] at hM3 hI3 hall hcost3
  have hm := hm2.trans hm3
  refine ⟨⟨_, rfl⟩, S3.es, by rw [← qp]; exact hM3.ep, hI3.nw, by rw [← qp]; exact hI3.wd, fun i hi => ⟨(hall i (by omega)).2.2.1, (hall i (by omega)).2.2.2.1⟩, ?_, fun i hi => ?_, own_zero hrow3, hbw.trans (hm.toBelow hbw.size hFge), hge⟩
  · have : S3.es.t ≤ S2.es.t + 160 := hcost3
    have h2 : S2.es.t ≤ 209 := hcost2
    omega
  · have := hM3.act i (by omega)
    obtain ⟨a1, a2, _⟩ := hall i (by omega)
    rw [a1, a2, qpb] at this
    exact this
/-- The unpins, rested. -/
theorem quick_unpins {w3 wr : World} {uv pv : Value} {pb2 b2 : Nat → Nat} (h3 : Q2 W p p.R pb pv s w3) (hg : Gath w3 p 37 p.R pb2 b2 uv wr) (h1 : 1 ≤ p.R) (h8 : p.R ≤ 8) :
    Calls Try.prog 23 #[.int .i64 1, uv] wr fun e w4 => (∃ n, e = .returned (.int .i64 n)) ∧ ∃ s4, EpAt p s4 w4 ∧ Stil p s4 0 (fun _ => none) ∧ s4.t ≤ 2000 ∧ Below W.heap.size W w4 := by
  have hM := hg.em h3.ep (Nat.le_refl _) (by rw [h3.wd]; omega) (fun i => .unp i) (fun i hi => ⟨rfl, hg.box i hi, hi⟩)
  obtain ⟨q, hq⟩ : ∃ q, qOf p p.R pb2 = q := ⟨_, rfl⟩
  have qN : q.N = p.R := by rw [← hq]; rfl
  have qp : q.p = p := by rw [← hq]; rfl
  have qpb : q.pb = pb2 := by rw [← hq]; rfl
  have qV : q.Vo = none := by rw [← hq]; rfl
  obtain ⟨S, hS⟩ : ∃ S : ET, ⟨s, fun i => .unp i, fun _ => 0, false⟩ = S := ⟨_, rfl⟩
  have Ses : S.es = s := by rw [← hS]
  have Spc : ∀ i, S.pc i = .unp i := fun i => by rw [← hS]
  rw [hq, hS] at hM
  have hI : UI q 0 S := ⟨by rw [Ses]; exact h3.nw, by rw [Ses, qp]; exact h3.wd, fun i hi => absurd hi (Nat.not_lt_zero _), fun i _ _ => Spc i⟩
  have hok : (epMach q).Ok := epMach_ok (fun i j hi hj hne => by rw [qpb]; rw [qN] at hi hj; exact hg.inj i j hi hj hne)
  have hpr : ptrs (epMach q) = paRow pb2 p.R := by rw [← qN, ← qpb]; rfl
  have hcost : (epMach q).cost S ≤ 1000 := by show S.es.t ≤ 1000; rw [Ses]; exact h3.t
  have hN : (epMach q).N ≤ 8 := by show q.N ≤ 8; omega
  have hbw : Below W.heap.size W wr := h3.bel.trans (hg.bel.mono h3.bel.size)
  have hFge : ∀ k, fQ q S b2 k → W.heap.size ≤ k := by
    have hs := h3.bel.size
    intro k hk
    rcases hk with hf | hf | ⟨i, hi, rfl⟩ | ⟨i, hi, hf⟩
    · rw [qp] at hf; exact h3.ge k hf
    · rw [qV] at hf; cases hf
    · rw [qpb]; rw [qN] at hi; have := (hg.ge i hi).1; omega
    · rw [Spc] at hf; rw [qN] at hi; have := (hg.ge i hi).2
      rcases hf with rfl | rfl <;> omega
  refine (rest_c hok (by omega) uv 1 1 rfl (by omega) S _ wr ⟨_, _, hM⟩ (by omega) (by rw [hpr]; exact RowAt.of_own hg.row (paRow_len _ _))).mono ?_
  rintro e w4 ⟨rfl, F4, ⟨b4, c4, hM4⟩, hm4⟩
  have hI4 := hI.rested
  have hcost4 := rest_cost hok (by omega) 1 S
  obtain ⟨S4, hS4⟩ : ∃ S4, ((epMach q).rest 1 S).1 = S4 := ⟨_, rfl⟩
  rw [hS4] at hM4 hI4 hcost4
  refine ⟨⟨_, rfl⟩, S4.es, by rw [← qp]; exact hM4.ep, ⟨hI4.nw, by rw [← qp]; exact hI4.wd, Nat.zero_le _, fun i hi _ => ?_, fun i e _ he => by cases he⟩, ?_, hbw.trans (hm4.toBelow hbw.size hFge)⟩
  · obtain ⟨_, a, b, c⟩ := hI4.ahead i (by omega)
    rw [qp] at c
    exact ⟨a, b, c⟩
  · have : S4.es.t ≤ S.es.t + 20 := hcost4
    have h2 : S.es.t ≤ 1000 := hcost
    omega
end Go.Proofs.Ytefmojohabdjcaa

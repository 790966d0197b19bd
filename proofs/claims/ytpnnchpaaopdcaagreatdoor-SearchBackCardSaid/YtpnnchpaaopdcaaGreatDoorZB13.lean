/-
  strings.Replacer: sync.Once's Do, whatever the building does: contract.
  strings.Replacer: the bytes' replacer that is built: what lies in its 257 cells.
  strings.Replacer: the bytes' replacer that is built of four texts: contract.
-/
import Derived.Test.YtpnnchpaaopdcaaGreatDoorZB04
import Derived.Test.YtpnnchpaaopdcaaGreatDoorZB12
import Derived.Great.Walk
import Derived.Laws.Tables
import Derived.Deep.WholeRow
import Derived.Maps.AppendAt
import Derived.Deep.LoopGhost
set_option linter.unusedVariables false
set_option linter.unusedSimpArgs false
namespace Go.Proofs.YtpnnchpaaopdcaaGreatDoor
open Go Go.RowKit
abbrev pt0 (g : Nat) : Value := .pointer (some ⟨g, 0, none⟩)
def RepAt (W : World) (g : Nat) (d st : Int) (r o : Value) : Prop := Cells W g 215 #[.int .u32 d, .int .i32 st, .int .u32 0, r, o]
theorem RepAt.facts {W : World} {g : Nat} {d st : Int} {r o : Value} (h : RepAt W g d st r o) : W.cell? ⟨g, 0, none⟩ = some (.int .u32 d) ∧ W.cell? ⟨g, 1, none⟩ = some (.int .i32 st) ∧ W.cell? ⟨g, 3, none⟩ = some r ∧ W.cell? ⟨g, 4, none⟩ = some o ∧
    g < W.heap.size ∧ (∀ i, W.frozen? ⟨g, i, none⟩ = false) := ⟨Cells.cell h rfl, Cells.cell h rfl, Cells.cell h rfl, Cells.cell h rfl, Cells.lt h, fun i => Cells.frozen h i⟩
theorem RepAt.set0 {W : World} {g : Nat} {d st : Int} {r o : Value} (h : RepAt W g d st r o) (x : Int) : RepAt (W.setCell ⟨g, 0, none⟩ (.int .u32 x)) g x st r o := Cells.set h 0 _
theorem RepAt.set1 {W : World} {g : Nat} {d st : Int} {r o : Value} (h : RepAt W g d st r o) (x : Int) : RepAt (W.setCell ⟨g, 1, none⟩ (.int .i32 x)) g d x r o := Cells.set h 1 _
theorem RepAt.set3 {W : World} {g : Nat} {d st : Int} {r o : Value} (h : RepAt W g d st r o) (x : Value) : RepAt (W.setCell ⟨g, 3, none⟩ x) g d st x o := Cells.set h 3 _
theorem RepAt.set4 {W : World} {g : Nat} {d st : Int} {r o : Value} (h : RepAt W g d st r o) (x : Value) : RepAt (W.setCell ⟨g, 4, none⟩ x) g d st r x := Cells.set h 4 _
def OnceP (g : Nat) (W : World) (E : Value → World → Prop) (d st : Int) (e : Ending) (w' : World) : Prop := e = .returned (.tuple #[]) ∧ ∃ r, RepAt w' g d st r (.slice none 0 0) ∧ E r w' ∧ Tk g W w'
variable {g : Nat} {sv : Value} {G : World → Prop} {E : Value → World → Prop}
theorem bload_c (a : Addr) (d : Int) (b : Bool) (hd : (d != 0) = b) (w : World) (h : w.cell? a = some (.int .u32 d)) : Calls Tryz.prog 225 #[.pointer (some a)] w fun e w' => e = .returned (.bool b) ∧ w' = w := by
  have hl := run_call_load (P := Tryz.prog) Tryz.func260 (by kernel_rfl) (by kernel_rfl) (by kernel_rfl) .u32 (by kernel_rfl) h
  go_enter Tryz.func225, Tryz.ntmps225
  go_wp2_with fail
  go_ret
  exact ⟨by simp [hd], rfl⟩
set_option maxRecDepth 100000 in
set_option maxHeartbeats 1600000 in
theorem onceSlow_c (HG : ∀ w w', G w → Tk g w w' → G w') (HE : ∀ r w w', E r w → Tk g w w' → E r w')
    (HB : ∀ w, RepAt w g 0 1 .nilIface sv → G w → Calls Tryz.prog 191 #[pt0 g] w (OnceP g w E 0 1)) (w : World) (h : RepAt w g 0 0 .nilIface sv) (hG : G w) :
    Calls Tryz.prog 226 #[pt0 g, .func (.func 191) #[pt0 g] #[]] w (OnceP g w E 1 0) := by
  obtain ⟨c0, c1, c3, c4, hb, hf⟩ := h.facts
  have f0 := hf 0
  have f1 := hf 1
  have h1 := h.set1 1
  have hk1 : Tk g w (w.setCell ⟨g, 1, none⟩ (.int .i32 1)) := Tk.set _ _ _
  obtain ⟨w1, hw1⟩ : ∃ w1, w.setCell ⟨g, 1, none⟩ (.int .i32 1) = w1 := ⟨_, rfl⟩
  have CL := lock_free ⟨g, 1, none⟩ w c1 f1
  rw [hw1] at h1 hk1 CL
  obtain ⟨d0, d1, d3, d4, hb1, hf1⟩ := h1.facts
  have hl := Lib.hid (bload_c ⟨g, 0, none⟩ 0 false rfl w1 d0)
  have CB := Lib.hid (HB w1 h1 (HG _ _ hG hk1))
  have hnot : ∀ (x : Bool) (w : World), (Op.unary .not (.bool x)).run Tryz.prog w = .ok (.bool (!x)) w := fun _ _ => rfl
  have CL := Lib.hid CL
  have HK1 := Lib.hid hk1
  have HHE := Lib.hid HE
  clear HB HG HE h hG c0 c1 c3 c4 hf f0 f1 h1 hk1 hw1 d1 d3 d4 hf1
  go_enter_defers Tryz.func226, Tryz.ntmps226
  go_wp2_with (go_at_call 261; refine CL.out.mono ?_; rintro e w' ⟨rfl, rfl⟩)
  go_wp2_with (go_at_call 225; refine hl.out.mono ?_; rintro e w'' ⟨rfl, rfl⟩)
  go_wp2_with (go_at_call 191; refine CB.out.mono ?_; rintro e w2 ⟨rfl, r, h2, e2, k2⟩)
  have H2 := Lib.hid h2
  have E2 := Lib.hid e2
  have K2 := Lib.hid k2
  clear h2 e2 k2
  go_wp2
  have h3 : RepAt w2.drew g 0 1 r (.slice none 0 0) := H2.out
  refine leaves_cons (f := 263) (args := #[.pointer (some ⟨g, 0, none⟩), .bool true]) (by simp) (by simp [go_sem]) ?_
  refine (store_deferred ⟨g, 0, none⟩ (.int .u32 0) .returning _ H2.out.facts.1 (H2.out.facts.2.2.2.2.2 0)).mono ?_
  rintro e u' w3 ⟨rfl, rfl, rfl⟩
  have h4 := h3.set0 1
  refine leaves_cons (f := 262) (args := #[.pointer (some ⟨g, 1, none⟩)]) (by simp [settle]) (by simp [go_sem]) ?_
  refine (unlock_deferred ⟨g, 1, none⟩ _ _ h4.facts.2.1 (h4.facts.2.2.2.2.2 1)).mono ?_
  rintro e u' w4 ⟨rfl, rfl, rfl⟩
  have h5 := h4.set1 0
  have k5 : Tk g w2 ((w2.drew.setCell ⟨g, 0, none⟩ (.int .u32 1)).setCell ⟨g, 1, none⟩ (.int .i32 0)) := ((Tk.drewN (Tk.refl g w2) 1).trans (Tk.set _ _ _)).trans (Tk.set _ _ _)
  have hfin : OnceP g w E 1 0 (.returned (.tuple #[])) ((w2.drew.setCell ⟨g, 0, none⟩ (.int .u32 1)).setCell ⟨g, 1, none⟩ (.int .i32 0)) := ⟨rfl, r, h5, HHE.out _ _ _ E2.out k5, (HK1.out.trans K2.out).trans k5⟩
  simp [Leaves, settle, results, Tryz.results226]
  exact hfin
theorem onceDo_c (HG : ∀ w w', G w → Tk g w w' → G w') (HE : ∀ r w w', E r w → Tk g w w' → E r w')
    (HB : ∀ w, RepAt w g 0 1 .nilIface sv → G w → Calls Tryz.prog 191 #[pt0 g] w (OnceP g w E 0 1)) (w : World) (h : RepAt w g 0 0 .nilIface sv) (hG : G w) :
    Calls Tryz.prog 190 #[pt0 g, .func (.func 191) #[pt0 g] #[]] w (OnceP g w E 1 0) := by
  have hl := Lib.hid (bload_c ⟨g, 0, none⟩ 0 false rfl w h.facts.1)
  have CS := Lib.hid (onceSlow_c HG HE HB w h hG)
  have hb := h.facts.2.2.2.2.1
  clear HG HE HB h hG
  go_enter Tryz.func190, Tryz.ntmps190
  go_wp2_with (go_at_call 225; refine hl.out.mono ?_; rintro e w'' ⟨rfl, rfl⟩)
  go_wp2_with (go_at_call 226; refine CS.out.mono ?_; rintro e w2 ⟨rfl, r, h2, e2, k2⟩)
  have HF : Hid (OnceP g w'' E 1 0 (.returned (.tuple #[])) w2) := ⟨rfl, r, h2, e2, k2⟩
  clear h2 e2 k2
  go_wp2_with fail
  go_end0
  exact HF.out
end Go.Proofs.YtpnnchpaaopdcaaGreatDoor
namespace Go.Proofs.YtpnnchpaaopdcaaGreatDoor
open Go Go.RowKit
theorem wpList_build_as {P : Program} {ops : Array Oper} {rest : List Oper} {o : Oper} {a : Act} {w : World} {Q : Exit → Act → World → Prop} (hg : o.guard = none) (t : TypeId) (parts : Array (Nat × Operand)) (ho : o.op = .build t parts) (cells : Array Value)
    (hf : P.built t (parts.map fun (i, x) => (i, a.eval x)).toList = some cells) (h : wpList P ops Q rest (a.put o.dst (.agg cells)) w) : wpList P ops Q (o :: rest) a w := by
  refine wpList_build hg t parts ho (by rw [hf]; rfl) ?_
  rw [hf]
  exact h
abbrev nilS : Value := .slice none 0 0
def rplA (f : Nat → Value) (tr : Value) : Array Value := ((List.range 256).map f ++ [tr]).toArray
def bsZ : Array Value := rplA (fun _ => nilS) nilS
theorem rplA_at (f : Nat → Value) (tr : Value) {i : Nat} (h : i < 256) : (rplA f tr)[i]? = some (f i) := by
  unfold rplA
  rw [List.getElem?_toArray, List.getElem?_append_left (by simpa using h), List.getElem?_map, List.getElem?_range h]; rfl
theorem rplA_end (f : Nat → Value) (tr : Value) : (rplA f tr)[256]? = some tr := by
  unfold rplA
  rw [List.getElem?_toArray, List.getElem?_append_right (by simp)]; simp
theorem rplA_set (f : Nat → Value) (tr v : Value) {i : Nat} (h : i < 256) : (rplA f tr).setIfInBounds i v = rplA (fun j => if j = i then v else f j) tr := by
  unfold rplA
  rw [List.setIfInBounds_toArray]
  congr 1
  apply List.ext_getElem?
  intro j
  by_cases hj : j < 256
  · rw [List.getElem?_append_left (by simpa using hj), List.getElem?_map, List.getElem?_range hj, List.getElem?_set]
    by_cases e : i = j
    · subst e; simp [h]; omega
    · rw [if_neg e, List.getElem?_append_left (by simpa using hj), List.getElem?_map, List.getElem?_range hj]
      simp [Ne.symm e]
  · rw [List.getElem?_set, if_neg (by omega), List.getElem?_append_right (by simp; omega), List.getElem?_append_right (by simp; omega)]
    simp
theorem rplA_setEnd (f : Nat → Value) (tr v : Value) : (rplA f tr).setIfInBounds 256 v = rplA f v := by
  unfold rplA
  rw [List.setIfInBounds_toArray, List.set_append_right _ _ (by simp)]
  simp
theorem zero_bs : (Tryz.prog.info? 281).bind (·.zero) = some (.agg bsZ) := by kernel_rfl
theorem size_bs : (Tryz.prog.info? 281).map (·.size) = some 257 := by kernel_rfl
theorem built_bs (a : Option Addr) (n c : Nat) : Tryz.prog.built 281 [(1, .slice a n c)] = some (rplA (fun _ => nilS) (.slice a n c)) := by kernel_rfl
theorem one_bs (a : Option Addr) (n c : Nat) : (rplA (fun _ => nilS) (.slice a n c)).all (·.oneCell') = true := by kernel_rfl
theorem alloc_bs (o : Oper) (ho : o.op = .alloc 281) (ρ : Operand → Value) (w : World) : (execOp ρ o).run Tryz.prog w = .ok (.value (.pointer (some ⟨w.heap.size, 0, none⟩))) (w.alloc (.cells bsZ 281)) := by
  obtain ⟨i, hi, hz⟩ : ∃ i, Tryz.prog.info? 281 = some i ∧ i.zero = some (.agg bsZ) := by
    have h := zero_bs
    cases hi : Tryz.prog.info? 281 with
    | none => rw [hi] at h; cases h
    | some i => rw [hi] at h; exact ⟨i, rfl, h⟩
  simp [execOp, ho, Instr.alloc, zeroValue, typeInfo, hi, hz, Value.cells, go_sem]
abbrev sO1 : ByteArray := ⟨#[92]⟩
abbrev sN1 : ByteArray := ⟨#[92, 92]⟩
abbrev sO2 : ByteArray := ⟨#[34]⟩
abbrev sN2 : ByteArray := ⟨#[92, 34]⟩
structure OldAt (W : World) (q : Nat) : Prop where
  c0 : W.cell? ⟨q, 0, none⟩ = some (.string sO1)
  c1 : W.cell? ⟨q, 1, none⟩ = some (.string sN1)
  c2 : W.cell? ⟨q, 2, none⟩ = some (.string sO2)
  c3 : W.cell? ⟨q, 3, none⟩ = some (.string sN2)
  lt : q < W.heap.size
structure BsAt (W : World) (base rb : Nat) (f : Nat → Value) (tr : Value) (xs : List Value) : Prop where
  c : Cells W rb 281 (rplA f tr)
  o : W.ownsRow base 9 1 tr xs.length xs
theorem Tryz.infoStr : (Tryz.prog.info? 9).map (fun i => (i.zero, i.size, i.bytes)) = some (some (.string ⟨#[]⟩), 1, 16) := by kernel_rfl
theorem ne_blocks {W : World} {k l : Nat} {c c' : Array Value} {e e' : TypeId} {fz fz' : Nat × Nat} (h : W.heap[k]? = some (.cells c e fz)) (h' : W.heap[l]? = some (.cells c' e' fz')) (hne : e ≠ e') : k ≠ l := by
  intro hk
  subst hk
  rw [h] at h'
  cases h'
  exact hne rfl
theorem own_block {A : World} {base e size n : Nat} {v : Value} {xs : List Value} (h : A.ownsRow base e size v n xs) {k : Nat} (hk : v.ownBlock = some k) : ∃ cur, A.heap[k]? = some (.cells cur e (0, 0)) := by
  rcases h.2 with ⟨rfl, _⟩ | ⟨g, cap, cur, rfl, hg, hgg, rest⟩
  · cases hk
  · cases hk; exact ⟨cur, hgg⟩
theorem own_keep {A B : World} {base e size n : Nat} {v : Value} {xs : List Value} (h : A.ownsRow base e size v n xs) (hp : ∀ k, v.ownBlock = some k → B.heap[k]? = A.heap[k]?) : B.ownsRow base e size v n xs := by
  refine ⟨h.1, ?_⟩
  rcases h.2 with hn | ⟨g, cap, cur, rfl, hg, hgg, rest⟩
  · exact .inl hn
  · exact .inr ⟨g, cap, cur, rfl, hg, (hp g rfl).trans hgg, rest⟩
def putF (f : Nat → Value) (i : Nat) (v : Value) : Nat → Value := fun j => if j = i then v else f j
set_option maxRecDepth 100000 in
theorem keep34 {w4 : World} {base rb : Nat} {f : Nat → Value} {tr v' : Value} {n : Nat} {xs : List Value} (hc : Cells w4 rb 281 (rplA f tr)) (ho : w4.ownsRow base 9 1 v' n xs) (hbase : base ≤ rb) :
    ∃ w6 cp, (convert 9 97 (.string sN2)).run Tryz.prog (w4.setCell ⟨rb, 256, none⟩ v') = .ok (.slice (some ⟨w4.heap.size, 0, none⟩) 2 cp) w6 ∧ Cells w6 rb 281 (rplA f v') ∧
      Below base w4 w6 ∧ w6.ownsRow base 9 1 v' n xs ∧ BytesAt w6 w4.heap.size [92, 34] ∧ rb < w6.heap.size ∧ (∀ i, w6.frozen? ⟨rb, i, none⟩ = false) ∧ (∀ k, k < w4.heap.size → k ≠ rb → w6.heap[k]? = w4.heap[k]?) := by
  have hc5 := hc.set 256 v'
  rw [rplA_setEnd] at hc5
  obtain ⟨w5, hw5⟩ : ∃ w5, w4.setCell ⟨rb, 256, none⟩ v' = w5 := ⟨_, rfl⟩
  have hs5 : w5.heap.size = w4.heap.size := by rw [← hw5]; exact size_setCell _ _ _
  have hk5 : ∀ k, k ≠ rb → w5.heap[k]? = w4.heap[k]? := fun k hk => by rw [← hw5]; exact Below.heap_setCell w4 ⟨rb, 256, none⟩ _ k hk
  have hb5 : Below base w4 w5 := ⟨by rw [← hw5]; rfl, by rw [← hw5]; rfl, by rw [← hw5]; rfl, by rw [hs5]; exact Nat.le_refl _, fun k hk => hk5 k (by omega)⟩
  have hne : ∀ k, v'.ownBlock = some k → k ≠ rb := fun k hk => by
    obtain ⟨cur, hcur⟩ := own_block ho hk
    exact ne_blocks hcur hc (by decide)
  have ho5 : w5.ownsRow base 9 1 v' n xs := own_keep ho fun k hk => hk5 k (hne k hk)
  rw [hw5] at hc5 ⊢
  have hcv := Lib.run_convert_string_bytes (P := Tryz.prog) w5 9 97 5 sN2 Tryz.underlying9 Tryz.underlying97 Tryz.underlying5
  have hold : ∀ k, k < w5.heap.size → (Lib.bytesWorld w5 5 sN2).heap[k]? = w5.heap[k]? := fun k hk => Lib.bytesWorld_at_old w5 5 sN2 k hk
  have hb6 : Below w5.heap.size w5 (Lib.bytesWorld w5 5 sN2) := Joins.below_bytesWorld w5.heap.size w5 5 sN2 (Nat.le_refl _)
  have hbase5 : base ≤ w5.heap.size := by rw [hs5]; have := hc.lt; omega
  have hc6 : Cells (Lib.bytesWorld w5 5 sN2) rb 281 (rplA f v') := hc5.later (hold rb hc5.lt)
  rw [hs5] at hcv
  refine ⟨Lib.bytesWorld w5 5 sN2, _, hcv, hc6, hb5.trans (hb6.mono hbase5), own_keep ho5 fun k hk => hold k ?_, ?_, hc6.lt, fun i => hc6.frozen i, fun k hk hr => (hold k (by rw [hs5]; exact hk)).trans (hk5 k hr)⟩
  · obtain ⟨cur, hcur⟩ := own_block ho5 hk
    exact (Array.getElem?_eq_some_iff.1 hcur).1
  · have := BytesAt.new w5 [92, 34]
    rw [hs5] at this
    exact this
set_option maxRecDepth 100000 in
theorem keep92 {w4 : World} {base rb : Nat} {f : Nat → Value} {tr v' : Value} {n : Nat} {xs : List Value} (hc : Cells w4 rb 281 (rplA f tr)) (ho : w4.ownsRow base 9 1 v' n xs) (hbase : base ≤ rb) :
    ∃ w6 cp, (convert 9 97 (.string sN1)).run Tryz.prog (w4.setCell ⟨rb, 256, none⟩ v') = .ok (.slice (some ⟨w4.heap.size, 0, none⟩) 2 cp) w6 ∧ Cells w6 rb 281 (rplA f v') ∧
      Below base w4 w6 ∧ w6.ownsRow base 9 1 v' n xs ∧ BytesAt w6 w4.heap.size [92, 92] ∧ rb < w6.heap.size ∧ (∀ i, w6.frozen? ⟨rb, i, none⟩ = false) ∧ (∀ k, k < w4.heap.size → k ≠ rb → w6.heap[k]? = w4.heap[k]?) := by
  have hc5 := hc.set 256 v'
  rw [rplA_setEnd] at hc5
  obtain ⟨w5, hw5⟩ : ∃ w5, w4.setCell ⟨rb, 256, none⟩ v' = w5 := ⟨_, rfl⟩
  have hs5 : w5.heap.size = w4.heap.size := by rw [← hw5]; exact size_setCell _ _ _
  have hk5 : ∀ k, k ≠ rb → w5.heap[k]? = w4.heap[k]? := fun k hk => by rw [← hw5]; exact Below.heap_setCell w4 ⟨rb, 256, none⟩ _ k hk
  have hb5 : Below base w4 w5 := ⟨by rw [← hw5]; rfl, by rw [← hw5]; rfl, by rw [← hw5]; rfl, by rw [hs5]; exact Nat.le_refl _, fun k hk => hk5 k (by omega)⟩
  have hne : ∀ k, v'.ownBlock = some k → k ≠ rb := fun k hk => by
    obtain ⟨cur, hcur⟩ := own_block ho hk
    exact ne_blocks hcur hc (by decide)
  have ho5 : w5.ownsRow base 9 1 v' n xs := own_keep ho fun k hk => hk5 k (hne k hk)
  rw [hw5] at hc5 ⊢
  have hcv := Lib.run_convert_string_bytes (P := Tryz.prog) w5 9 97 5 sN1 Tryz.underlying9 Tryz.underlying97 Tryz.underlying5
  have hold : ∀ k, k < w5.heap.size → (Lib.bytesWorld w5 5 sN1).heap[k]? = w5.heap[k]? := fun k hk => Lib.bytesWorld_at_old w5 5 sN1 k hk
  have hb6 : Below w5.heap.size w5 (Lib.bytesWorld w5 5 sN1) := Joins.below_bytesWorld w5.heap.size w5 5 sN1 (Nat.le_refl _)
  have hbase5 : base ≤ w5.heap.size := by rw [hs5]; have := hc.lt; omega
  have hc6 : Cells (Lib.bytesWorld w5 5 sN1) rb 281 (rplA f v') := hc5.later (hold rb hc5.lt)
  rw [hs5] at hcv
  refine ⟨Lib.bytesWorld w5 5 sN1, _, hcv, hc6, hb5.trans (hb6.mono hbase5), own_keep ho5 fun k hk => hold k ?_, ?_, hc6.lt, fun i => hc6.frozen i, fun k hk hr => (hold k (by rw [hs5]; exact hk)).trans (hk5 k hr)⟩
  · obtain ⟨cur, hcur⟩ := own_block ho5 hk
    exact (Array.getElem?_eq_some_iff.1 hcur).1
  · have := BytesAt.new w5 [92, 92]
    rw [hs5] at this
    exact this
end Go.Proofs.YtpnnchpaaopdcaaGreatDoor

/-
  The chapter's examples: the law's awake: contract.
-/
import Derived.Test.YtkmhdaalabhcbaaDoorFd7
import Derived.Laws.StructEq
set_option linter.unusedVariables false
set_option linter.unusedSimpArgs false
namespace Go.Proofs.YtkmhdaalabhcbaaDoor
open Go Go.RowKit

def awB : List UInt8 := [97, 32, 110, 111, 111, 112, 13, 10, 97, 32, 97, 112, 112, 101, 110, 100, 32, 120, 32, 123, 50, 125, 13, 10, 104, 105, 13, 10]
theorem aw_take : (takeF FS.new awB).2 = [(0, [97, 32, 110, 111, 111, 112]), (1, []), (0, [97, 32, 97, 112, 112, 101, 110, 100, 32, 120, 32, 123, 50, 125, 13, 10, 104, 105])] := by decide +kernel
theorem conv_aw (w : World) : (convert 22 22 (.slice (some ⟨w.heap.size, 0, none⟩) 28 28)).run Tryd.prog (w.alloc (.cells #[.int .u8 97, .int .u8 32, .int .u8 110, .int .u8 111, .int .u8 111, .int .u8 112, .int .u8 13, .int .u8 10, .int .u8 97, .int .u8 32, .int .u8 97, .int .u8 112, .int .u8 112, .int .u8 101, .int .u8 110, .int .u8 100, .int .u8 32, .int .u8 120, .int .u8 32, .int .u8 123, .int .u8 50, .int .u8 125, .int .u8 13, .int .u8 10, .int .u8 104, .int .u8 105, .int .u8 13, .int .u8 10] 5)) = .ok (.slice (some ⟨w.heap.size, 0, none⟩) 28 28) (w.alloc (.cells #[.int .u8 97, .int .u8 32, .int .u8 110, .int .u8 111, .int .u8 111, .int .u8 112, .int .u8 13, .int .u8 10, .int .u8 97, .int .u8 32, .int .u8 97, .int .u8 112, .int .u8 112, .int .u8 101, .int .u8 110, .int .u8 100, .int .u8 32, .int .u8 120, .int .u8 32, .int .u8 123, .int .u8 50, .int .u8 125, .int .u8 13, .int .u8 10, .int .u8 104, .int .u8 105, .int .u8 13, .int .u8 10] 5 (28, 29))) :=
  Go.Joins.run_convert_bytes_const_at w 22 5 #[.int .u8 97, .int .u8 32, .int .u8 110, .int .u8 111, .int .u8 111, .int .u8 112, .int .u8 13, .int .u8 10, .int .u8 97, .int .u8 32, .int .u8 97, .int .u8 112, .int .u8 112, .int .u8 101, .int .u8 110, .int .u8 100, .int .u8 32, .int .u8 120, .int .u8 32, .int .u8 123, .int .u8 50, .int .u8 125, .int .u8 13, .int .u8 10, .int .u8 104, .int .u8 105, .int .u8 13, .int .u8 10] 28 28 _ rfl Tryd.underlying22 Tryd.underlying5
theorem aw_rby (w : World) : RBy (w.alloc (.cells #[.int .u8 97, .int .u8 32, .int .u8 110, .int .u8 111, .int .u8 111, .int .u8 112, .int .u8 13, .int .u8 10, .int .u8 97, .int .u8 32, .int .u8 97, .int .u8 112, .int .u8 112, .int .u8 101, .int .u8 110, .int .u8 100, .int .u8 32, .int .u8 120, .int .u8 32, .int .u8 123, .int .u8 50, .int .u8 125, .int .u8 13, .int .u8 10, .int .u8 104, .int .u8 105, .int .u8 13, .int .u8 10] 5 (28, 29))) (some ⟨w.heap.size, 0, none⟩) awB := by
  intro j c hj
  have hh := heap_alloc_new w (.cells #[.int .u8 97, .int .u8 32, .int .u8 110, .int .u8 111, .int .u8 111, .int .u8 112, .int .u8 13, .int .u8 10, .int .u8 97, .int .u8 32, .int .u8 97, .int .u8 112, .int .u8 112, .int .u8 101, .int .u8 110, .int .u8 100, .int .u8 32, .int .u8 120, .int .u8 32, .int .u8 123, .int .u8 50, .int .u8 125, .int .u8 13, .int .u8 10, .int .u8 104, .int .u8 105, .int .u8 13, .int .u8 10] 5 (28, 29))
  refine ⟨w.heap.size, 0, rfl, by simp, ?_⟩
  rw [Nat.zero_add, Lib.cell_of_heap hh]
  have e : (#[.int .u8 97, .int .u8 32, .int .u8 110, .int .u8 111, .int .u8 111, .int .u8 112, .int .u8 13, .int .u8 10, .int .u8 97, .int .u8 32, .int .u8 97, .int .u8 112, .int .u8 112, .int .u8 101, .int .u8 110, .int .u8 100, .int .u8 32, .int .u8 120, .int .u8 32, .int .u8 123, .int .u8 50, .int .u8 125, .int .u8 13, .int .u8 10, .int .u8 104, .int .u8 105, .int .u8 13, .int .u8 10] : Array Value) = (bV awB).toArray := rfl
  show (#[.int .u8 97, .int .u8 32, .int .u8 110, .int .u8 111, .int .u8 111, .int .u8 112, .int .u8 13, .int .u8 10, .int .u8 97, .int .u8 32, .int .u8 97, .int .u8 112, .int .u8 112, .int .u8 101, .int .u8 110, .int .u8 100, .int .u8 32, .int .u8 120, .int .u8 32, .int .u8 123, .int .u8 50, .int .u8 125, .int .u8 13, .int .u8 10, .int .u8 104, .int .u8 105, .int .u8 13, .int .u8 10] : Array Value)[j]? = _
  rw [e, List.getElem?_toArray]
  exact bV_at hj
theorem eql_piece (k : Int) (B : ByteArray) (w : World) : (binOp .eql 40 (.agg #[.int .i64 k, .string B]) (.agg #[.int .i64 k, .string B])).run Tryd.prog w = .ok (.bool true) w := by
  go_simp
theorem eql_pguard (x y : Operand) (xs ys : Array Value) (w : World) : (eqGuard .eql 40 x y (.agg xs) (.agg ys)).run Tryd.prog w = .ok () w := run_eqGuard_agg w _ _ _ _ _ _ (by kernel_rfl)
set_option maxRecDepth 100000 in
set_option maxHeartbeats 4000000 in
theorem awake16_c (W : World) (hE : Errs W) : Calls Tryd.prog 9 #[] W fun e w' => e = .returned (.bool true) ∧ Below W.heap.size W w' := by
  have C := Lib.hid (feNew_c W)
  have HLT := Lib.hid hE.lt
  have HE := Lib.hid hE
  clear hE
  go_enter Tryd.func9, Tryd.ntmps9
  go_wp2_with fail
  refine C.out.mono ?_
  rintro e w1 ⟨rfl, h1, hb1⟩
  have hcv := conv_aw w1
  have hrb := aw_rby w1
  have hba : Below w1.heap.size w1 (w1.alloc (.cells #[.int .u8 97, .int .u8 32, .int .u8 110, .int .u8 111, .int .u8 111, .int .u8 112, .int .u8 13, .int .u8 10, .int .u8 97, .int .u8 32, .int .u8 97, .int .u8 112, .int .u8 112, .int .u8 101, .int .u8 110, .int .u8 100, .int .u8 32, .int .u8 120, .int .u8 32, .int .u8 123, .int .u8 50, .int .u8 125, .int .u8 13, .int .u8 10, .int .u8 104, .int .u8 105, .int .u8 13, .int .u8 10] 5 (28, 29))) := (Below.refl _ w1).alloc (Nat.le_refl _) _
  have hlt := h1.lt
  have T := feTake_c (h1.below hba) new_ok awB (by decide) ((HE.out.below hb1).below hba) (by have := HLT.out.1; omega) (by have := HLT.out.2; omega) (some ⟨w1.heap.size, 0, none⟩) 28 hrb (fun _ b hb => by
    simp only [Option.map_some, Option.some.injEq] at hb; subst hb; exact ⟨by omega, by simp⟩)
  have HTL : Hid (takeF FS.new awB = ((takeF FS.new awB).1, (takeF FS.new awB).2)) := rfl
  rw [aw_take] at T HTL
  rw [show awB.length = 28 from rfl] at T
  obtain ⟨wa, hwa⟩ : ∃ wa, w1.alloc (.cells #[.int .u8 97, .int .u8 32, .int .u8 110, .int .u8 111, .int .u8 111, .int .u8 112, .int .u8 13, .int .u8 10, .int .u8 97, .int .u8 32, .int .u8 97, .int .u8 112, .int .u8 112, .int .u8 101, .int .u8 110, .int .u8 100, .int .u8 32, .int .u8 120, .int .u8 32, .int .u8 123, .int .u8 50, .int .u8 125, .int .u8 13, .int .u8 10, .int .u8 104, .int .u8 105, .int .u8 13, .int .u8 10] 5 (28, 29)) = wa := ⟨_, rfl⟩
  rw [hwa] at T hcv hba
  have HWA := Lib.hid hwa
  have T := Lib.hid T
  have HB1 := Lib.hid (hb1.trans (hba.mono (Nat.le_of_lt hlt)))
  have hsz : W.heap.size ≤ wa.heap.size := HB1.out.size
  clear h1 hb1 hrb hba hwa
  go_wp2_with fail
  refine T.out.mono ?_
  rintro e w5 ⟨o', pv, rfl, ho, hf, hm, _⟩
  have HB5 : Hid (Below W.heap.size W w5) := HB1.out.trans (hm.below hsz (Nat.le_refl _) (fun k hk => by cases hk))
  obtain ⟨pa, pc, rfl⟩ := own_form ho
  obtain ⟨pb, rfl, hpc, _⟩ := own_some ho (by decide)
  have hc := ho.cells (g := pb) rfl
  have c0 : w5.cell? ⟨pb, 0, none⟩ = some (.int .i64 0) := hc 0 _ rfl
  have c1 : w5.cell? ⟨pb, 1, none⟩ = some (.string ⟨#[97, 32, 110, 111, 111, 112]⟩) := hc 1 _ rfl
  have c2 : w5.cell? ⟨pb, 2, none⟩ = some (.int .i64 1) := hc 2 _ rfl
  have c3 : w5.cell? ⟨pb, 3, none⟩ = some (.string ⟨#[]⟩) := hc 3 _ rfl
  have c4 : w5.cell? ⟨pb, 4, none⟩ = some (.int .i64 0) := hc 4 _ rfl
  have c5 : w5.cell? ⟨pb, 5, none⟩ = some (.string ⟨#[97, 32, 97, 112, 112, 101, 110, 100, 32, 120, 32, 123, 50, 125, 13, 10, 104, 105]⟩) := hc 5 _ rfl
  have e1 := eql_piece
  have e2 := eql_pguard
  have hlen : ([(0, [97, 32, 110, 111, 111, 112]), (1, []), (0, [97, 32, 97, 112, 112, 101, 110, 100, 32, 120, 32, 123, 50, 125, 13, 10, 104, 105])] : List Pc).length = 3 := rfl
  rw [hlen] at hpc ⊢
  clear ho hf hm hc hcv T
  go_wp2_with fail
  go_ret
  exact ⟨rfl, HB5.out⟩
end Go.Proofs.YtkmhdaalabhcbaaDoor

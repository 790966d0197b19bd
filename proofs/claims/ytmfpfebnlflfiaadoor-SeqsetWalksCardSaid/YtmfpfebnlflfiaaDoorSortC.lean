/-
  The parts of a set, sorted by their first ends: slices.SortFunc's contract on a row of the call's own.
-/
import Derived.Test.YtmfpfebnlflfiaaDoorRHas
import Derived.Test.YtmfpfebnlflfiaaDoorShelfS
import Derived.Sort.OwnSorted
import Derived.Shelf.SlSortCmp.NoneTotal
set_option linter.unusedVariables false
set_option linter.unusedSimpArgs false
namespace Go.Proofs.YtmfpfebnlflfiaaDoor
open Go Go.RowKit Go.Sort Go.Shelf

def encP (x : Nat × Nat) : List Value := [.int .u32 x.1, .int .u32 x.2]
def cmpN (a b : Nat) : Int := if a < b then -1 else if b < a then 1 else 0

set_option maxHeartbeats 1000000 in
theorem cmp32_c (a b : Nat) (w : World) : Calls Tryd.prog 59 #[.int .u32 a, .int .u32 b] w fun e w' => e = .returned (.int .i64 (cmpN a b)) ∧ w = w' := by
  by_cases h1 : a < b
  · have e1 : cmpN a b = -1 := by simp [cmpN, h1]
    have E1 := Lib.hid e1
    clear e1
    go_enter Tryd.func59, Tryd.ntmps59
    go_wp2
    go_ret
    exact ⟨by rw [E1.out]; rfl, rfl⟩
  · by_cases h2 : b < a
    · have e1 : cmpN a b = 1 := by simp [cmpN, h1, h2]
      have E1 := Lib.hid e1
      clear e1
      go_enter Tryd.func59, Tryd.ntmps59
      go_wp2
      go_ret
      exact ⟨by rw [E1.out]; rfl, rfl⟩
    · have e1 : cmpN a b = 0 := by simp [cmpN, h1, h2]
      have E1 := Lib.hid e1
      clear e1
      go_enter Tryd.func59, Tryd.ntmps59
      go_wp2
      go_ret
      exact ⟨by rw [E1.out]; rfl, rfl⟩

set_option maxHeartbeats 1000000 in
theorem rising1_c (x y : Nat × Nat) (W : World) : Calls Tryd.prog 58 #[.agg #[.int .u32 x.1, .int .u32 x.2], .agg #[.int .u32 y.1, .int .u32 y.2]] W fun e w' => e = .returned (.int .i64 (cmpN x.1 y.1)) ∧ ∃ q os', w' = grow (W.drewN q) os' := by
  have hcon := Lib.hid (cmp32_c x.1 y.1)
  generalize cmpN x.1 y.1 = r at hcon ⊢
  go_enter Tryd.func58, Tryd.ntmps58
  go_wp2_with fail
  refine (hcon.out _).mono ?_
  rintro e w' ⟨rfl, rfl⟩
  go_wp2_with fail
  go_ret
  exact ⟨rfl, 0, _, by rw [alloc_eq_grow, alloc_eq_grow, grow_grow]; rfl⟩

theorem ltOf_cmp (x y : Nat × Nat) : ltOf (fun x y : Nat × Nat => cmpN x.1 y.1) x y = decide (x.1 < y.1) := by
  unfold ltOf cmpN
  by_cases h1 : x.1 < y.1
  · simp [h1]
  · by_cases h2 : y.1 < x.1 <;> simp [h1, h2]
theorem swoP : SWO (ltOf fun x y : Nat × Nat => cmpN x.1 y.1) where
  irrefl x := by rw [ltOf_cmp]; simp
  trans x y z h1 h2 := by rw [ltOf_cmp] at *; simp at *; omega
  ntrans x y z h1 h2 := by rw [ltOf_cmp] at *; simp at *; omega

theorem flat_cells (l : List (Nat × Nat)) : (flatK encP 2 l.toArray).toList = cellsP l := by
  apply List.ext_getElem?
  intro j
  by_cases hj : j < l.length * 2
  · have h0 : j / 2 < l.length := by omega
    have hc := cellsP_at h0
    have hsz : j < (flatK encP 2 l.toArray).size := by simp; exact hj
    rw [Array.getElem?_toList, Array.getElem?_eq_getElem hsz, ← getElem!_pos _ j hsz, get_flatK encP 2 l.toArray j (by simpa using hj)]
    have e1 : (l.toArray)[j / 2]! = l[j / 2] := by rw [getElem!_pos _ _ (by simpa using h0)]; simp
    rw [e1]
    rcases Nat.mod_two_eq_zero_or_one j with h | h
    · rw [h]
      have e2 : j = j / 2 * 2 := by omega
      rw [show (cellsP l)[j]? = (cellsP l)[j / 2 * 2]? by rw [← e2], hc.1]; rfl
    · rw [h]
      have e2 : j = j / 2 * 2 + 1 := by omega
      rw [show (cellsP l)[j]? = (cellsP l)[j / 2 * 2 + 1]? by rw [← e2], hc.2]; rfl
  · rw [List.getElem?_eq_none (by simp; omega), List.getElem?_eq_none (by rw [cellsP_len]; omega)]

theorem holds_flat {w : World} {g : Nat} {cur : Array Value} {e : TypeId} {F : Array Value} (hb : w.heap[g]? = some (.cells cur e (0, 0))) (ht : cur.toList.take F.size = F.toList) : Holds id w g 0 F := by
  intro j hj
  refine ⟨?_, by simp [World.frozen?, hb]⟩
  have h1 : (cur.toList.take F.size)[j]? = F.toList[j]? := by rw [ht]
  rw [List.getElem?_take_of_lt hj] at h1
  simp only [World.cell?, hb, Nat.zero_add]
  simp only [Option.isSome_none, Bool.false_eq_true, if_false]
  rw [← Array.getElem?_toList, h1]
  simp [hj]
theorem heap_sortedV {w : World} {g n : Nat} {os : Array Obj} {cur : Array Value} {e : TypeId} {fr : Nat × Nat} (F : Array Value) (hb : w.heap[g]? = some (.cells cur e fr)) :
    (grow (putRow id (Sort.ahead w n) g 0 F) os).heap[g]? = some (.cells (putCells id 0 F cur) e fr) := by
  have hg : g < w.heap.size := (Array.getElem?_eq_some_iff.1 hb).1
  rw [heap_grow_old _ _ (by simpa using hg)]
  simp [putRow, mapBlock, Sort.ahead, Array.getElem?_modify, hb, onCells]
theorem take_putCellsV (cur F : Array Value) (h : F.size ≤ cur.size) : (putCells id 0 F cur).toList.take F.size = F.toList := by
  apply List.ext_getElem?
  intro j
  by_cases hj : j < F.size
  · rw [List.getElem?_take_of_lt hj, Array.getElem?_toList]
    simp [putCells, hj, show j < cur.size by omega]
  · rw [List.getElem?_take_eq_none (by omega), List.getElem?_eq_none (by simp; omega)]

/-- What the sort leaves alone. -/
structure ButOne (g : Nat) (w w' : World) : Prop where
  os : w'.os = w.os
  tape : w'.tape = w.tape
  output : w'.output = w.output
  size : w.heap.size ≤ w'.heap.size
  block : ∀ k, k ≠ g → k < w.heap.size → w'.heap[k]? = w.heap[k]?
theorem ButOne.below {g D : Nat} {a b : World} (h : ButOne g a b) (hD : D ≤ g) (hs : D ≤ a.heap.size) : Below D a b := ⟨h.os, h.tape, h.output, h.size, fun k hk => h.block k (by omega) (by omega)⟩

theorem sortR_c (B cap g : Nat) (l : List (Nat × Nat)) (hn : l.length ≤ 1000) (w : World) (ho : w.ownsRow B 83 2 (.slice (some ⟨g, 0, none⟩) l.length cap) l.length (cellsP l)) :
    Calls Tryd.prog 57 #[.slice (some ⟨g, 0, none⟩) l.length cap, .func (.func 58) #[] #[]] w fun e w' => (∃ u, e = .returned u) ∧ ButOne g w w' ∧
      ∃ l' : List (Nat × Nat), l'.Perm l ∧ l'.Pairwise (fun a b => a.1 ≤ b.1) ∧ w'.ownsRow B 83 2 (.slice (some ⟨g, 0, none⟩) l.length cap) l.length (cellsP l') := by
  obtain ⟨hlen, hr⟩ := ho
  rcases hr with ⟨h, _⟩ | ⟨g', cap', cur, hv, hg, hb, hnc, hcm, hcs, htk⟩
  · cases h
  cases hv
  have hgl : g < w.heap.size := lt_of_block hb
  have hH : HoldsK encP 2 w g 0 l.toArray := by
    refine holds_flat hb ?_
    rw [flat_cells, size_flatK]
    simpa using htk
  have eg : ∀ args w, (callFunc 58 args).run Tryd.prog w = .ok (.enter 58 args) w := enters_of Tryd.func58 (by kernel_rfl) rfl
  have hcon := AnyQ.slices_SortFunc Tryd.sortL 2 Tryd.isAgg83 Tryd.sizeOf83 encP (fun _ => rfl) (fun x v hv => by simp [encP] at hv; rcases hv with rfl | rfl <;> rfl) (fun x y => cmpN x.1 y.1) swoP 58 #[] g 0 cap l.toArray w eg
    (fun _ _ _ _ x y => rising1_c x y _) hH hgl (by simp; omega)
  have e1 : l.toArray.size = l.length := by simp
  rw [e1] at hcon
  change Calls Tryd.prog 57 _ _ _ at hcon
  refine hcon.mono ?_
  rintro e w' ⟨rfl, d', n, os, hp, hs, rfl⟩
  obtain ⟨hp1, _, hp3⟩ := hp
  have hsz : d'.size = l.length := by rw [hp1]; simp
  refine ⟨⟨_, rfl⟩, ⟨rfl, rfl, rfl, by simp [sortWorldK, putRowK, putRow, mapBlock], fun k hk hkl => ?_⟩, d'.toList, ?_, ?_, ?_⟩
  · unfold sortWorldK
    rw [heap_grow_old _ _ (by simp [putRowK, putRow, mapBlock]; exact hkl)]
    have : g ≠ k := fun e => hk e.symm
    simp [putRowK, putRow, mapBlock, Sort.ahead, Array.getElem?_modify, this]
  · have h1 : (d'.extract 0 l.length).toList = d'.toList := by rw [← hsz]; simp
    have h2 : (l.toArray.extract 0 l.length).toList = l := by simp
    rw [h1, h2] at hp3
    exact hp3
  · rw [List.pairwise_iff_getElem]
    intro i j hi hj hij
    have h := hs i j (Nat.zero_le _) hij (by simpa [hsz] using hj)
    rw [ltOf_cmp] at h
    have hi' : i < d'.size := by simpa using hi
    have hj' : j < d'.size := by simpa using hj
    rw [getElem!_pos d' i hi', getElem!_pos d' j hj'] at h
    simp only [decide_eq_false_iff_not, Nat.not_lt] at h
    simpa using h
  · have hflat : flatK encP 2 d' = flatK encP 2 d'.toList.toArray := by simp
    refine ⟨by rw [cellsP_len]; simp [hsz], .inr ⟨g, cap, putCells id 0 (flatK encP 2 d') cur, rfl, hg, ?_, hnc, hcm, by simp [putCells, hcs], ?_⟩⟩
    · exact heap_sortedV _ hb
    · have h := take_putCellsV cur (flatK encP 2 d') (by simp [hsz, hcs]; omega)
      rw [size_flatK, hsz] at h
      rw [h, hflat, flat_cells]
end Go.Proofs.YtmfpfebnlflfiaaDoor

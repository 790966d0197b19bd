/-
  What the chapter's example says holds: contract.
-/
import Derived.Test.YtebkpejiloabnaaLsG
import Derived.Laws.MakeOwn
set_option linter.unusedVariables false
set_option linter.unusedSimpArgs false
namespace Go.Proofs.Ytebkpejiloabnaa
open Go Go.RowKit
variable {W W' : World} {v va vb : Value} {l now : List EL}

/-- A message, as lists take it. -/
structure RL where
  e : EL
  tx : ByteArray
def encR11 (r : RL) : List Value := [.int .u32 r.e.uid, .int .u8 r.e.fl, .string r.tx]
def madeE (N : Nat) : Array Value := madeCells #[.int .u32 0, .int .u8 0] (N * 2)
theorem run_makeL (N : Nat) (hN : N ≤ 1000000) (w : World) : (Instr.makeSlice 26 (.int .i64 N) (.int .i64 N)).run Try.prog w = .ok (.slice (some ⟨w.heap.size, 0, none⟩) N N) (w.alloc (.cells (madeE N) 35)) := by
  obtain ⟨i0, hi0, hz0, hz1, hz2⟩ := info_parts infoE
  have h := run_make (P := Try.prog) w 26 35 i0 _ Try.underlying26 hi0 hz0 .i64 .i64 N N (by omega) (by omega) (by rw [hz2]; omega) (by omega)
  simp only [Int.toNat_natCast, hz1] at h
  exact h
theorem madeE_list (N : Nat) : (madeE N).toList = cellsK encE (List.replicate N noE) := by
  rw [← zerosE, ← zeroCells_list _ (by decide)]
  rfl
def partL (l : List RL) (k : Nat) : List EL := (l.take k).map (·.e) ++ List.replicate (l.length - k) noE
theorem partL_at {l : List RL} {k : Nat} {r : RL} (h : l[k]? = some r) : (partL l k)[k]? = some noE ∧ partL l (k + 1) = (partL l k).set k r.e := by
  have hk := (List.getElem?_eq_some_iff.1 h).1
  have hlen : ((l.take k).map (·.e)).length = k := by rw [List.length_map, List.length_take]; omega
  have hr : List.replicate (l.length - k) noE = noE :: List.replicate (l.length - (k + 1)) noE := by
    rw [show l.length - k = (l.length - (k + 1)) + 1 by omega, List.replicate_succ]
  unfold partL
  rw [hr]
  constructor
  · rw [List.getElem?_append_right (by omega), hlen, Nat.sub_self]; rfl
  · rw [List.set_append_right _ _ (by omega), hlen, Nat.sub_self, take_at' h, List.map_append]
    simp
set_option maxRecDepth 20000 in
set_option maxHeartbeats 2000000 in
theorem lOf_c {l : List RL} (hl : RowK 3 encR11 W v l) (hm : l.length ≤ 1000000) :
    Calls Try.prog 22 #[v] W fun e w' => ∃ u, e = .returned u ∧ w'.ownsRow W.heap.size 35 2 u l.length (cellsK encE (l.map (·.e))) ∧ Below W.heap.size W w' := by
  obtain ⟨ad, cp, rfl⟩ := hl.form
  obtain ⟨N, hN⟩ : ∃ N, l.length = N := ⟨_, rfl⟩
  rw [hN] at hl hm ⊢
  have HL := Lib.hid hl
  have HN := Lib.hid hN
  have ho := World.ownsRow_lit (w := W) (base := W.heap.size) (e := 35) (size := 2) (madeE N) N (Nat.le_refl _) (by unfold maxLen; omega) (by unfold madeE; exact size_madeCells _ _)
  have hp0 : partL l 0 = List.replicate N noE := by unfold partL; rw [hN]; simp
  rw [madeE_list, ← hp0] at ho
  have HO := Lib.hid ho
  have HB := Lib.hid ((Below.refl W.heap.size W).alloc (Nat.le_refl _) (.cells (madeE N) 35))
  have hrun := run_makeL N (by omega)
  clear hl hN ho hp0
  go_enter Try.func22, Try.ntmps22
  go_wp2_with fail
  clear hrun
  obtain ⟨G, hG⟩ : ∃ G, W.heap.size = G := ⟨_, rfl⟩
  obtain ⟨W1, hW1⟩ : ∃ W1, W.alloc (.cells (madeE N) 35) = W1 := ⟨_, rfl⟩
  rw [hW1] at HO HB ⊢
  have hGW : Hid (W.heap.size = G) := hG
  rw [hG] at HO ⊢
  clear hG hW1
  go_loopw [11] (fun kv wr => ∃ k : Nat, k ≤ N ∧ kv = .int .i64 k ∧ Hid (wr.ownsRow G 35 2 (.slice (some ⟨G, 0, none⟩) N N) N (cellsK encE (partL l k))) ∧ Hid (Below W.heap.size W wr)) (fun kv _ => N - (intOf kv).toNat)
  case atStart => exact ⟨0, Nat.zero_le _, rfl, HO.out, HB.out⟩
  case round =>
    clear HO HB
    obtain ⟨k, hk, rfl, HO, HB⟩ := hrel
    by_cases hlt : k < N
    · have hq : (k : Int) < N := by omega
      have hq0 : (0 : Int) ≤ k := by omega
      obtain ⟨r, hr⟩ : ∃ r, l[k]? = some r := ⟨_, List.getElem?_eq_getElem (by have := HN.out; omega)⟩
      obtain ⟨b, off, rfl, hbb, hc⟩ := RowK.at (HL.out.below HB.out) hr
      have c0 : wr.cell? ⟨b, off + k * 3, none⟩ = some (.int .u32 r.e.uid) := hc 0 _ rfl
      have c1 : wr.cell? ⟨b, off + k * 3 + 1, none⟩ = some (.int .u8 r.e.fl) := hc 1 _ rfl
      have c2 : wr.cell? ⟨b, off + k * 3 + 2, none⟩ = some (.string r.tx) := hc 2 _ rfl
      obtain ⟨hp1, hp2⟩ := partL_at hr
      obtain ⟨e0, e1⟩ := cellsE_at hp1
      have hgw : G < wr.heap.size := (HO.out.lt G rfl).2
      have k0 : wr.cell? ⟨G, k * 2, none⟩ = some (.int .u32 ((0 : Nat) : Int)) := by rw [HO.out.cellAt _ (by omega)]; exact e0
      have k1 : wr.cell? ⟨G, k * 2 + 1, none⟩ = some (.int .u8 ((0 : Nat) : Int)) := by rw [HO.out.cellAt _ (by omega)]; exact e1
      have f0 : wr.frozen? ⟨G, k * 2, none⟩ = false := HO.out.frozenAt _
      have f1 : wr.frozen? ⟨G, k * 2 + 1, none⟩ = false := HO.out.frozenAt _
      have hst := ownK_stored (encE r.e) wr (cellsK encE (partL l k)) (k * 2) HO.out
      rw [setK_set hp1, ← hp2] at hst
      have HO6 : Hid ((((wr.setCell ⟨G, k * 2, none⟩ (.int .u32 r.e.uid)).setCell ⟨G, k * 2 + 1, none⟩ (.int .u8 r.e.fl)).alloc (.cells #[.int .u32 r.e.uid, .int .u8 r.e.fl, .string r.tx] 61)).ownsRow G 35 2 (.slice (some ⟨G, 0, none⟩) N N) N (cellsK encE (partL l (k + 1)))) := hst.1.alloc _
      have HB6 : Hid (Below W.heap.size W (((wr.setCell ⟨G, k * 2, none⟩ (.int .u32 r.e.uid)).setCell ⟨G, k * 2 + 1, none⟩ (.int .u8 r.e.fl)).alloc (.cells #[.int .u32 r.e.uid, .int .u8 r.e.fl, .string r.tx] 61))) :=
        (HB.out.grown hst.2 HB.out.size (fun q hq => by cases hq; have := hGW.out; omega)).alloc (Nat.le_trans HB.out.size hst.2.size) _
      clear hr hc hp1 hp2 e0 e1 hst
      go_wp2_with fail
      go_roundw
      case rel => exact ⟨k + 1, by omega, by go_num, HO6.out, HB6.out⟩
      case measure => simp [intOf]; omega
    · obtain rfl : k = N := by omega
      have hq : ¬ (k : Int) < k := by omega
      have hfin : partL l k = l.map (·.e) := by
        unfold partL
        rw [HN.out, Nat.sub_self, List.take_of_length_le (by rw [HN.out]; exact Nat.le_refl _)]; simp
      have HF := Lib.hid hfin
      clear hfin
      go_wp2_with fail
      go_ret
      refine ⟨_, rfl, ?_, HB.out⟩
      have h := HO.out
      rw [HF.out] at h
      exact own_base h (by have := hGW.out; omega)
end Go.Proofs.Ytebkpejiloabnaa

/-
  Build: a leaf.
-/
import Derived.Test.YtdelhpogacccjaaTrB2
set_option linter.unusedVariables false
set_option linter.unusedSimpArgs false
namespace Go.Proofs.Ytdelhpogacccjaa
open Go Go.RowKit

variable {W W' : World} {v lv : Value} {nodes : List RN} {l : List R7} {base : Nat}
def BuildP (base : Nat) (v : Value) (nodes : List RN) (k : Nat) (l : List R7) (W : World) (e : Ending) (w' : World) : Prop :=
  ∃ v', e = .returned (.tuple #[v', .int .i64 (nodes.length : Nat)]) ∧ w'.ownsRow base 79 21 v' (nodes ++ treeL k nodes.length l).length (cellsN (nodes ++ treeL k nodes.length l)) ∧ Gro v v' W w'
theorem Gro.append {v v2 : Value} {o : Obj} {w2 : World} (hg : (W.alloc o).grownBy w2 v.ownBlock) (hat : v2.ownBlock = v.ownBlock ∨ v2.ownBlock = some (W.alloc o).heap.size) : Gro v v2 W w2 :=
  ⟨⟨hg.os, hg.tape, hg.output, by have := hg.size; rw [World.size_alloc] at this; omega, fun k hk hne => (hg.block k (by rw [World.size_alloc]; omega) hne).trans (Below.heap_alloc _ _ _ hk)⟩, fun g h => by
    rcases hat with h2 | h2
    · exact .inl (h2 ▸ h)
    · rw [h2] at h; cases h; right; rw [World.size_alloc]; omega⟩
set_option maxRecDepth 20000 in
set_option maxHeartbeats 1000000 in
theorem build0_c (ho : W.ownsRow base 79 21 v nodes.length (cellsN nodes)) (hbase : base ≤ W.heap.size) (hl : RecRow W lv l) (hne : l ≠ []) (hn : nodes.length ≤ 100000) :
    Calls Try.prog 26 #[v, lv, .int .i64 (-1)] W fun e w' => BuildP base v nodes 0 l W e w' := by
  obtain ⟨N, hN⟩ : ∃ N, nodes.length = N := ⟨_, rfl⟩
  have hN2 : (nodes ++ treeL 0 nodes.length l).length = N + 1 := by rw [List.length_append, hN]; rfl
  have hC2 : cellsN (nodes ++ treeL 0 nodes.length l) = cellsN nodes ++ (rnA (leafN (l.headD noR))).toList := by rw [cellsN_app]; exact congrArg _ (cellsN_one _)
  unfold BuildP
  rw [hN2, hC2]
  rw [hN] at ho hn ⊢
  obtain ⟨ad, cp, rfl⟩ := own_form ho
  obtain ⟨la, lc, rfl⟩ := hl.form
  obtain ⟨r, hr⟩ : ∃ r, l.headD noR = r := ⟨_, rfl⟩
  have hr0 : l[0]? = some r := by
    match l, hne with
    | a :: t, _ => rw [← hr]; rfl
  rw [hr]
  obtain ⟨b, off, rfl, hb, c0, c1, c2⟩ := hl.at hr0
  rw [Nat.zero_mul, Nat.add_zero] at c0 c1 c2
  obtain ⟨L, hL⟩ : ∃ L, l.length = L := ⟨_, rfl⟩
  have hL0 : 0 < L := by rw [← hL]; exact List.length_pos_iff.2 hne
  rw [hL]
  have q1 : (0 : Int) < L := by omega
  have HO := Lib.hid ho
  obtain ⟨i0, hi0, hz0, hz1, hz2⟩ := info_parts infoRN
  obtain ⟨cs, hcs⟩ : ∃ cs, rnA (leafN r) = cs := ⟨_, rfl⟩
  have hB := built_leaf r
  have hS := slice_rn (leafN r)
  have hone := rnA_mem (leafN r)
  have hsz := rnA_size (leafN r)
  rw [hcs] at hB hS hone hsz ⊢
  have HB := Lib.hid hB
  have HS := Lib.hid hS
  have HONE := Lib.hid hone
  have HSZ : Hid (cs.toList.length = 1 * 21) := by show _ = _; simpa using hsz
  clear ho hl hr hr0 hne hN hN2 hC2 hL hcs hB hS hone hsz
  go_enter Try.func26, Try.ntmps26
  go_wp2_with (first
    | (refine wpList_build_as rfl 79 #[(0, .const (.bool true)), (3, .tmp 20)] rfl cs (Eq.trans (by kernel_rfl) HB.out) ?_)
    | (refine Great.wpList_buildSliceTo rfl 75 79 1 #[(0, .tmp 21)] rfl W.heap.size rfl (some 22) rfl Try.underlying75 cs (Eq.trans (by kernel_rfl) HS.out) ?_)
    | (at_builtin; refine Hid.out ?_))
  refine Lib.hid ?_
  refine wpList_append_own_at _ rfl (.tmp 17) (.tmp 22) 75 rfl base 79 i0 zeroRN 21 168 Try.underlying75 hi0 hz0 hz1 hz2 rfl (by decide) _ _ _ rfl (HO.out.alloc _) ⟨W.heap.size, 0, none⟩ 1 1 cs.toList rfl HSZ.out (World.news_of_block (heap_alloc_new W _)) HONE.out (by unfold maxLen; omega) (by omega) (by rw [World.size_alloc]; omega) ?_
  intro v2 w2 hown hgrow hnil hat
  have HOW := Lib.hid hown
  have HGR := Lib.hid (Gro.append hgrow hat)
  clear hown hgrow hnil hat
  go_wp2_with fail
  go_ret2
  exact ⟨_, rfl, HOW.out, HGR.out⟩
end Go.Proofs.Ytdelhpogacccjaa

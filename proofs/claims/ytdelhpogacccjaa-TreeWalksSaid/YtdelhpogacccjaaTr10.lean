/-
  Len of a tree.
-/
import Derived.Test.YtdelhpogacccjaaTr9
import Derived.Deep.RegionHeld3
set_option linter.unusedVariables false
set_option linter.unusedSimpArgs false
namespace Go.Proofs.Ytdelhpogacccjaa
open Go Go.RowKit

variable {W W' : World} {v : Value} {ns : List TN}
theorem TreeOf.subO {r : Int} {H : Nat} {l : List R7} (h : TreeOf ns r H l) : SubO ns H r l := by
  rcases h with ⟨rfl, rfl, rfl⟩ | ⟨_, _, h, _⟩
  · exact .inl ⟨rfl, rfl⟩
  · exact .inr h
theorem TreeOf.top {r : Int} {H : Nat} {l : List R7} (h : TreeOf ns r H l) : (if (H : Int) < 1 ∨ 8 < (H : Int) then (-1 : Int) else r) = r := by
  rcases h with ⟨rfl, rfl, rfl⟩ | ⟨h1, h2, _⟩
  · rfl
  · exact if_neg (by omega)
def TLS (W : World) (r h : Int) (w : World) : Prop := w.cell? ⟨W.heap.size, 0, none⟩ = some (.int .i64 r) ∧ w.cell? ⟨W.heap.size, 1, none⟩ = some (.int .i64 h) ∧ TB w W.heap.size r h ∧ Below W.heap.size W w
theorem TLS.call {w w2 : World} {r h : Int} (H : TLS W r h w) (hb : Below w.heap.size w w2) : TLS W r h w2 := by
  obtain ⟨_, _, ht, hb1⟩ := H
  have ht2 := ht.below hb ht.lt
  exact ⟨ht2.cell.1, ht2.cell.2, ht2, hb1.trans (hb.mono hb1.size)⟩
theorem TLS.to {w : World} {r h : Int} (H : TLS W r h w) : Below W.heap.size W w := H.2.2.2
set_option maxRecDepth 20000 in
set_option maxHeartbeats 2000000 in
theorem tLen_c (h : ShelfRow W v ns) {r : Int} {H : Nat} {l : List R7} (hT : TreeOf ns r H l) :
    Calls Try.prog 19 #[.agg #[.int .i64 r, .int .i64 H], iS v] W fun e w' => e = .returned (.int .i64 (l.length : Nat)) ∧ Below W.heap.size W w' := by
  obtain ⟨V, hV⟩ : ∃ V, iS v = V := ⟨_, rfl⟩
  have CO := Lib.hid (fun w (hb : Below W.heap.size W w) => tCount_c (h.below hb) r ((H : Int) - 1))
  rw [hT.subO.count, hV] at CO
  have hwr : ((H : Int) - 1) = IntKind.i64.wrap ((H : Int) - 1) := by have := hT.le; rw [IntKind.wrap_i64]; omega
  rw [hwr] at CO
  have CT := Lib.hid (fun w => tTop_c r H w)
  rw [hT.top] at CT
  have hb1 := TB.new W r H
  have HB := Lib.hid ((Below.refl W.heap.size W).alloc (Nat.le_refl _) (.cells #[.int .i64 r, .int .i64 H] 27))
  have HTB := Lib.hid hb1
  have hH8 := hT.le
  obtain ⟨N, hN⟩ : ∃ N, l.length = N := ⟨_, rfl⟩
  rw [hN] at CO ⊢
  rw [hV]
  clear h hT hb1 hV hN hwr
  go_enter Try.func19, Try.ntmps19
  go_wp2_with fail
  obtain ⟨W1, hW1⟩ : ∃ W1, W.alloc (.cells #[.int .i64 r, .int .i64 H] 27) = W1 := ⟨_, rfl⟩
  rw [hW1] at HTB HB ⊢
  clear hW1
  obtain ⟨c0, c1⟩ := HTB.out.cell
  go_region_held3 (fun w' => w'.cell? ⟨W.heap.size, 0, none⟩ = some (.int .i64 r) ∧ w'.cell? ⟨W.heap.size, 1, none⟩ = some (.int .i64 H) ∧ TB w' W.heap.size r H ∧ Below W.heap.size W w')
    (first | exact ⟨c0, c1, HTB.out, HB.out⟩ | exact ⟨c0, c1, HTB.out, below_drewN HB.out _⟩ | assumption)
    (first | (go_at_call 30; refine (CT.out _).mono ?_; rintro e w2 ⟨rfl, hb2⟩; have hs2 := TLS.call (W := W) (r := r) (h := (H : Int)) (by assumption) hb2; unfold TLS at hs2) | (go_at_call 51; refine (CO.out _ (TLS.to (W := W) (r := r) (h := (H : Int)) (by assumption))).mono ?_; rintro e w2 ⟨rfl, hb2⟩; have hs2 := TLS.call (W := W) (r := r) (h := (H : Int)) (by assumption) hb2; unfold TLS at hs2))
  all_goals
    have HB9 := Lib.hid hs2.2.2.2
    clear hs2
    go_wp2_with fail
    go_ret
    exact ⟨rfl, HB9.out⟩
end Go.Proofs.Ytdelhpogacccjaa

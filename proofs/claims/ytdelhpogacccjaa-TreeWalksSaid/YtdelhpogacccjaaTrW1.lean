/-
  The chapter's example of tree.
-/
import Derived.Test.YtdelhpogacccjaaTrS2
set_option linter.unusedVariables false
set_option linter.unusedSimpArgs false
namespace Go.Proofs.Ytdelhpogacccjaa
open Go Go.RowKit

def l37 : List R7 := [⟨1, 0, ⟨#[]⟩⟩, ⟨17, 0, ⟨#[]⟩⟩, ⟨300, 0, ⟨#[120]⟩⟩]
theorem up37 : Up l37 := by
  refine ⟨by decide, fun r hr => ?_⟩
  simp [l37] at hr
  rcases hr with rfl | rfl | rfl <;> decide
theorem height37 : heightOf l37 = 3 := by
  show nd 300 = 3
  rw [nd_great (by omega), nd_great (by omega), nd_small (by omega)]
theorem row37 (W : World) : RecRow (W.alloc (.cells #[.int .u32 1, .int .u8 0, .string ⟨#[]⟩, .int .u32 17, .int .u8 0, .string ⟨#[]⟩, .int .u32 300, .int .u8 0, .string ⟨#[120]⟩] 50)) (.slice (some ⟨W.heap.size, 0, none⟩) 3 3) l37 := by
  have h := heap_alloc_new W (.cells #[.int .u32 1, .int .u8 0, .string ⟨#[]⟩, .int .u32 17, .int .u8 0, .string ⟨#[]⟩, .int .u32 300, .int .u8 0, .string ⟨#[120]⟩] 50)
  have hc := fun j => cell_of_row _ W.heap.size j _ _ (0, 0) h
  refine .inr ⟨_, 3, rfl, fun j r hj => ⟨W.heap.size, 0, rfl, by rw [World.size_alloc]; omega, ?_⟩⟩
  match j, hj with
  | 0, hj => cases hj; exact ⟨(hc _).trans rfl, (hc _).trans rfl, (hc _).trans rfl⟩
  | 1, hj => cases hj; exact ⟨(hc _).trans rfl, (hc _).trans rfl, (hc _).trans rfl⟩
  | 2, hj => cases hj; exact ⟨(hc _).trans rfl, (hc _).trans rfl, (hc _).trans rfl⟩
theorem stand37 {w : World} {ns : List TN} {r : Int} {H : Nat} (h : StandIs 2 0 l37 ns r H) : r = 2 ∧ H = 3 ∧ TreeOf ns r H l37 := by
  have ht := h.tree up37
  rcases h with ⟨h0, _⟩ | ⟨_, h1, h2, _⟩
  · cases h0
  · rw [height37] at h1
    exact ⟨h2, h1, ht⟩
set_option maxRecDepth 20000 in
set_option maxHeartbeats 4000000 in
theorem awake7_c (W : World) : Calls Try.prog 14 #[] W fun e w' => e = .returned (.bool true) ∧ Below W.heap.size W w' := by
  have CS := stand_c (row37 W) up37 (by decide) 2 0 (by omega) (by omega)
  have n2 : ((2 : Nat) : Int) = 2 := rfl
  have n0 : ((0 : Nat) : Int) = 0 := rfl
  rw [n2, n0] at CS
  have HCS := Lib.hid CS
  have HB0 := Lib.hid ((Below.refl W.heap.size W).alloc (Nat.le_refl _) (.cells #[.int .u32 1, .int .u8 0, .string ⟨#[]⟩, .int .u32 17, .int .u8 0, .string ⟨#[]⟩, .int .u32 300, .int .u8 0, .string ⟨#[120]⟩] 50))
  clear CS n2 n0
  go_enter Try.func14, Try.ntmps14
  go_upto_region 2 with (go_at_call 8; refine HCS.out.mono ?_; rintro e w1 ⟨sv, ns, r, H, rfl, hsr, hb, his⟩; obtain ⟨rfl, rfl, ht⟩ := stand37 (w := w1) his; have HT := Lib.hid ht; have HS := Lib.hid hsr; have HB := Lib.hid (HB0.out.trans (hb.mono (by simp))); clear hsr hb his ht)
  have n2 : ((2 : Nat) : Int) = 2 := rfl
  have n3 : ((3 : Nat) : Int) = 3 := rfl
  have n18 : ((18 : Nat) : Int) = 18 := rfl
  have CSel := fun w (hb : Below w1.heap.size w1 w) => tSelect_c (HS.out.below hb) HT.out up37 (by decide) 2 (by omega)
  have CRk := fun w (hb : Below w1.heap.size w1 w) => tRank_c (HS.out.below hb) HT.out up37 (by decide) 18 (by omega)
  have CLn := fun w (hb : Below w1.heap.size w1 w) => tLen_c (HS.out.below hb) HT.out
  have e1 : selOf l37 2 = (⟨300, 0, ⟨#[120]⟩⟩, true) := rfl
  have e2 : rankOf l37 18 = 2 := rfl
  have e3 : l37.length = 3 := rfl
  rw [e1, n3] at CSel
  rw [e2, n2, n3, n18] at CRk
  rw [e3, n3] at CLn
  unfold iS rV at CSel
  unfold iS at CRk CLn
  dsimp only at CSel
  have HSel := Lib.hid CSel
  have HRk := Lib.hid CRk
  have HLn := Lib.hid CLn
  have hb2 : Below w1.heap.size w1 (w1.alloc (.cells #[.int .i64 2, .int .i64 3] 27)) := (Below.refl _ _).alloc (Nat.le_refl _) _
  have ht2 := TB.new w1 2 3
  obtain ⟨wA, hwA⟩ : ∃ wA, w1.alloc (.cells #[.int .i64 2, .int .i64 3] 27) = wA := ⟨_, rfl⟩
  rw [hwA] at hb2 ht2 ⊢
  have HB2 := Lib.hid hb2
  have HT2 := Lib.hid ht2
  clear n2 n3 n18 e1 e2 e3 CSel CRk CLn hb2 ht2 hwA HCS HB0 HT HS
  obtain ⟨c0, c1⟩ := HT2.out.cell
  have hlt := HT2.out.lt
  go_upto_region 3 with (go_at_call 32; refine (HSel.out _ HB2.out).mono ?_; rintro e w2 ⟨rfl, hb2⟩; have HBs := Lib.hid hb2; clear hb2)
  have ht3 := Tri.new w2 40 (.int .u32 300) (.int .u8 0) (.string ⟨#[120]⟩)
  have hb3 : Below wA.heap.size wA (w2.alloc (.cells #[.int .u32 300, .int .u8 0, .string ⟨#[120]⟩] 40)) := HBs.out.alloc HBs.out.size _
  obtain ⟨wB, hwB⟩ : ∃ wB, w2.alloc (.cells #[.int .u32 300, .int .u8 0, .string ⟨#[120]⟩] 40) = wB := ⟨_, rfl⟩
  rw [hwB] at ht3 hb3 ⊢
  have HT3 := Lib.hid ht3
  have HB3 := Lib.hid hb3
  have HB4 := Lib.hid (HB2.out.trans (hb3.mono HB2.out.size))
  have ht2 := HT2.out.below hb3 hlt
  have HT2B := Lib.hid ht2
  obtain ⟨d0, d1⟩ := ht2.cell
  obtain ⟨x0, x1, x2, _, _, _⟩ := ht3.cell
  have hl3 := ht3.lt
  have hl2 := ht2.lt
  clear ht3 hb3 ht2 hwB c0 c1 HSel HBs
  go_wp2_with (first
    | (go_at_call 33; refine (HRk.out _ HB4.out).mono ?_; rintro e w5 ⟨rfl, hb5⟩; obtain ⟨y0, y1⟩ := (HT2B.out.below hb5 hl2).cell; obtain ⟨z0, z1, z2, _, _, _⟩ := (HT3.out.below hb5 hl3).cell; have hl22 : w1.heap.size < w5.heap.size := Nat.lt_of_lt_of_le hl2 hb5.size; have hl33 : w2.heap.size < w5.heap.size := Nat.lt_of_lt_of_le hl3 hb5.size; have HB6 := Lib.hid (HB4.out.trans (hb5.mono HB4.out.size)); clear hb5)
    | (go_at_call 19; refine (HLn.out _ HB6.out).mono ?_; rintro e w6 ⟨rfl, hb6⟩; have HB7 := Lib.hid (HB6.out.trans (hb6.mono HB6.out.size)); clear hb6))

  go_ret
  exact ⟨rfl, HB.out.trans (HB7.out.mono HB.out.size)⟩
end Go.Proofs.Ytdelhpogacccjaa

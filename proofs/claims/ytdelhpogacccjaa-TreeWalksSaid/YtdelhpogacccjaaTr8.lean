/-
  A digit, by shifts.
-/
import Derived.Test.YtdelhpogacccjaaTr7
import Derived.Test.YtdelhpogacccjaaTrM
import Derived.Laws.BitsAllLaws
set_option linter.unusedVariables false
set_option linter.unusedSimpArgs false
namespace Go.Proofs.Ytdelhpogacccjaa
open Go Go.RowKit

theorem dig_shift (u rank : Nat) (hu : u < 4294967296) : bits BinOp.and IntKind.u32 ((u : Int) / 2 ^ (4 * rank)) 15 = ((dig u rank : Nat) : Int) := by
  have e : (u : Int) / 2 ^ (4 * rank) = ((u / 16 ^ rank : Nat) : Int) := by
    rw [show (16 : Nat) = 2 ^ 4 from rfl, ← Nat.pow_mul]
    norm_cast
  rw [e, show (15 : Int) = ((15 : Nat) : Int) from rfl, u32_and_nat _ _ (Nat.lt_of_le_of_lt (Nat.div_le_self _ _) hu) (by omega)]
  congr 1
  exact Nat.and_two_pow_sub_one_eq_mod (u / 16 ^ rank) 4
set_option maxRecDepth 20000 in
set_option maxHeartbeats 1000000 in
theorem tDigit_c (u rank : Nat) (hu : u < 4294967296) (hr : rank < 8) (w : World) : Calls Try.prog 61 #[.int .u32 u, .int .i64 rank] w fun e w' => e = .returned (.int .i64 (dig u rank : Nat)) ∧ w' = w := by
  have HD := Lib.hid (dig_shift u rank hu)
  have hd := dig_lt u rank
  obtain ⟨d, hd2⟩ : ∃ d, dig u rank = d := ⟨_, rfl⟩
  rw [hd2] at HD hd ⊢
  clear hd2
  go_enter Try.func61, Try.ntmps61
  go_wp2_with fail
  rw [HD.out]
  have HW : Hid (wrap64 (d : Int) = d) := by show _ = _; unfold wrap64; omega
  rw [HW.out]
  go_ret
  exact ⟨rfl, rfl⟩
/-- The sixteen ways down lie one behind the other. -/
theorem nodeA_kid (n : TN) (d : Nat) (hd : d < 16) : (nodeA n)[2 + d]? = some (.int .i64 (n.kids d)) := by
  have : d = 0 ∨ d = 1 ∨ d = 2 ∨ d = 3 ∨ d = 4 ∨ d = 5 ∨ d = 6 ∨ d = 7 ∨ d = 8 ∨ d = 9 ∨ d = 10 ∨ d = 11 ∨ d = 12 ∨ d = 13 ∨ d = 14 ∨ d = 15 := by omega
  rcases this with rfl | rfl | rfl | rfl | rfl | rfl | rfl | rfl | rfl | rfl | rfl | rfl | rfl | rfl | rfl | rfl <;> rfl
/-- A tree, and its messages. -/
def TreeOf (ns : List TN) (r : Int) (H : Nat) (l : List R7) : Prop := (l = [] ∧ r = -1 ∧ H = 0) ∨ (1 ≤ H ∧ H ≤ 8 ∧ Sub ns H r l ∧ ∀ x, x ∈ l → x.uid < 16 ^ H)
theorem TreeOf.small {ns : List TN} {r : Int} {H : Nat} {l : List R7} (h : TreeOf ns r H l) : ∀ x, x ∈ l → x.uid < 16 ^ H := by
  rcases h with ⟨rfl, _⟩ | ⟨_, _, _, h⟩
  · simp
  · exact h
theorem TreeOf.le {ns : List TN} {r : Int} {H : Nat} {l : List R7} (h : TreeOf ns r H l) : H ≤ 8 := by
  rcases h with ⟨_, _, rfl⟩ | ⟨_, h, _⟩ <;> omega
theorem small_of_nd {u H : Nat} (h : nd u ≤ H) : 1 ≤ H ∧ u < 16 ^ H := by
  have := nd_pos u
  obtain ⟨k, rfl⟩ : ∃ k, H = k + 1 := ⟨H - 1, by omega⟩
  exact ⟨by omega, lt_nd k u h⟩
theorem great_of_nd {u H : Nat} (h1 : 1 ≤ H) (h : H < nd u) : 16 ^ H ≤ u := by
  apply Nat.le_of_not_lt
  intro h2
  cases H with
  | zero => omega
  | succ k => have := nd_le k u h2; omega
theorem TreeOf.sub {ns : List TN} {r : Int} {H : Nat} {l : List R7} (h : TreeOf ns r H l) (u : Nat) (hn : nd u ≤ H) : SubO ns H r (same l u H) := by
  obtain ⟨h1, h2⟩ := small_of_nd hn
  rcases h with ⟨_, _, rfl⟩ | ⟨_, _, h, hs⟩
  · omega
  · rw [same_all l u H h2 hs]; exact .inr h
theorem nodeOf_no (ns : List TN) (rank : Int) : nodeOf ns (-1) rank = (noTN, false) := rfl
theorem Sub.node {ns : List TN} {k : Nat} {s : Int} {l : List R7} (h : Sub ns (k + 1) s l) : ∃ n, nodeOf ns s k = (n, true) ∧ n.cnt = l.length ∧ ∀ d, d < 16 → SubO ns k (n.kids d) (part k d l) := by
  obtain ⟨h0, _, n, h1, h2, h3, h4⟩ := h
  refine ⟨n, ?_, h3, h4⟩
  unfold nodeOf
  rw [if_neg (by omega), h1, if_neg (show ¬ (k : Int) = -1 by omega), if_pos ⟨rfl, h2⟩]
theorem Sub.leaf {ns : List TN} {s : Int} {l : List R7} (h : Sub ns 0 s l) : ∃ n, nodeOf ns s (-1) = (n, true) ∧ l = [n.rc] ∧ n.cnt = 0 := by
  obtain ⟨h0, r, n, h1, h2, h3, h4, h5⟩ := h
  refine ⟨n, ?_, by rw [h4]; exact h1, h5⟩
  unfold nodeOf
  rw [if_neg (by omega), h2, if_pos rfl]
  simp [h3]
theorem SubO.count {ns : List TN} {k : Nat} {s : Int} {l : List R7} (h : SubO ns k s l) : countOf ns s ((k : Int) - 1) = l.length := by
  rcases h with ⟨rfl, rfl⟩ | h
  · unfold countOf; rw [nodeOf_no]; simp [noTN]
  · cases k with
    | zero =>
      obtain ⟨n, h1, h2, _⟩ := h.leaf
      unfold countOf
      rw [show (((0 : Nat) : Int) - 1) = -1 from rfl, h1, h2]
      simp
    | succ k =>
      obtain ⟨n, h1, h2, _⟩ := h.node
      unfold countOf
      rw [show (((k + 1 : Nat) : Int) - 1) = (k : Int) by omega, h1, if_neg (by omega), h2]
theorem getOf_same (l : List R7) (u : Nat) : getOf l u = match (same l u 0).head? with | none => (noR, false) | some r => (r, true) := by
  unfold getOf
  rw [same_zero, List.head?_filter]
  cases List.find? (fun r => decide (r.uid = u)) l <;> rfl
theorem same_nil {l : List R7} {u k : Nat} (h : same l u k = []) : same l u 0 = [] := by
  unfold same at *
  rw [List.filter_eq_nil_iff] at *
  intro r hr h2
  refine h r hr ?_
  have : r.uid = u := by simpa using h2
  rw [this]; simp
theorem getOf_nil {l : List R7} {u k : Nat} (h : same l u k = []) : getOf l u = (noR, false) := by rw [getOf_same, same_nil h]; rfl
theorem TreeOf.far {ns : List TN} {r : Int} {H : Nat} {l : List R7} (h : TreeOf ns r H l) {u : Nat} (hn : H < nd u) : getOf l u = (noR, false) := by
  refine getOf_nil (k := 0) ?_
  rw [same_zero, List.filter_eq_nil_iff]
  intro x hx h2
  have h3 := h.small x hx
  have h4 : 16 ^ H ≤ u := great_of_nd (by rcases h with ⟨rfl, _⟩ | ⟨h, _⟩; { simp at hx }; exact h) hn
  have : x.uid = u := by simpa using h2
  omega
end Go.Proofs.Ytdelhpogacccjaa

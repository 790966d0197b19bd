/-
  The law TreeBack, walked.
-/
import Derived.Test.YtbgiehfklfojkaaTrW2
set_option linter.unusedVariables false
set_option linter.unusedSimpArgs false
namespace Go.Proofs.Ytbgiehfklfojkaa
open Go Go.RowKit

variable {W W' : World} {lv : Value} {l : List R7}
theorem at_split {k : Nat} {q : R7} (h : l[k]? = some q) : ∃ a b, l = a ++ q :: b ∧ a.length = k := by
  obtain ⟨hk, hq⟩ := List.getElem?_eq_some_iff.1 h
  refine ⟨l.take k, l.drop (k + 1), ?_, by rw [List.length_take]; omega⟩
  rw [← hq, List.getElem_cons_drop, List.take_append_drop]
theorem up_split {a b : List R7} {q : R7} (h : Up (a ++ q :: b)) : (∀ x, x ∈ a → x.uid < q.uid) ∧ ∀ x, x ∈ b → q.uid < x.uid := by
  obtain ⟨h1, h2, h3⟩ := List.pairwise_append.1 h.1
  exact ⟨fun x hx => h3 x hx q (by simp), (List.pairwise_cons.1 h2).1⟩
theorem rank_self {k : Nat} {q : R7} (hu : Up l) (h : l[k]? = some q) : rankOf l q.uid = k := by
  obtain ⟨a, b, rfl, rfl⟩ := at_split h
  obtain ⟨h1, h2⟩ := up_split hu
  unfold rankOf
  rw [List.filter_append, List.filter_eq_self.2 (fun x hx => decide_eq_true (h1 x hx)), List.filter_cons_of_neg (by simp), List.filter_eq_nil_iff.2 (fun x hx => by have := h2 x hx; simp; omega)]
  simp
theorem rank_next {k : Nat} {q : R7} (hu : Up l) (h : l[k]? = some q) : rankOf l (q.uid + 1) = k + 1 := by
  obtain ⟨a, b, rfl, rfl⟩ := at_split h
  obtain ⟨h1, h2⟩ := up_split hu
  unfold rankOf
  rw [List.filter_append, List.filter_eq_self.2 (fun x hx => by have := h1 x hx; simp; omega), List.filter_cons_of_pos (by simp), List.filter_eq_nil_iff.2 (fun x hx => by have := h2 x hx; simp; omega)]
  simp
theorem get_self {k : Nat} {q : R7} (hu : Up l) (h : l[k]? = some q) : getOf l q.uid = (q, true) := by
  obtain ⟨a, b, rfl, rfl⟩ := at_split h
  obtain ⟨h1, h2⟩ := up_split hu
  unfold getOf
  rw [List.find?_append, List.find?_eq_none.2 (fun x hx => by have := h1 x hx; simp; omega)]
  simp
set_option maxRecDepth 20000 in
set_option maxHeartbeats 4000000 in
theorem back7_walk (hl : RecRow W lv l) (h32 : ∀ r, r ∈ l → r.uid < 4294967296) (hs : ∀ r, r ∈ l → r.tx.size ≤ 9223372036854775807) (u : Nat) (hu : u < 256) :
    Calls Try.prog 5 #[lv, .int .u8 u] W fun e w' => e = .returned (.bool true) ∧ Below W.heap.size W w' := by
  have hm : ((60 : Nat) : Int) = 60 := rfl
  have CG := great7_c hl 60 (by omega) (by omega) hs
  rw [hm] at CG
  have HCG := Lib.hid CG
  clear CG hm
  cases hgr : greatB l 60 with
  | true =>
    rw [hgr] at HCG
    clear hgr hl h32 hs
    go_enter Try.func5, Try.ntmps5
    go_wp2_with (go_at_call 9; refine HCG.out.mono ?_; rintro e w1 ⟨rfl, hb⟩; have HB := Lib.hid hb; clear hb)
    go_ret
    exact ⟨rfl, HB.out⟩
  | false =>
    rw [hgr] at HCG
    obtain ⟨h60, hup, hnz⟩ := great_small hgr h32
    obtain ⟨m, hmm⟩ : ∃ m, u % 9 = m := ⟨_, rfl⟩
    have hm9 : m < 9 := by omega
    have hmi : (m : Int) = (u : Int) % 9 := by omega
    have n0 : ((0 : Nat) : Int) = 0 := rfl
    have CS := fun w1 (hb : Below W.heap.size W w1) => stand_c (hl.below hb) hup (by omega) 0 m (by omega) (by omega)
    rw [hmi, n0] at CS
    have HUP := Lib.hid hup
    obtain ⟨la, lc, hlv⟩ := hl.form
    subst hlv
    obtain ⟨N, hN⟩ : ∃ N, l.length = N := ⟨_, rfl⟩
    rw [hN] at HCG CS h60 ⊢
    have HCS := Lib.hid CS
    have HN := Lib.hid hN
    have HAW := Lib.hid awake7_c
    clear hgr hl h32 hs hnz hup hmi hmm hN CS n0
    go_enter Try.func5, Try.ntmps5
    go_upto_region 3 with (go_at_call 9; refine HCG.out.mono ?_; rintro e w1 ⟨rfl, hb⟩; have HB1 := Lib.hid hb; clear hb)
    go_upto_region 4 with (go_at_call 10; refine (HCS.out _ HB1.out).mono ?_; rintro e w2 ⟨sv, ns, r, H, rfl, hsr, hb, his⟩; have HT := Lib.hid (his.tree HUP.out); have HS := Lib.hid hsr; have HB2 := Lib.hid (HB1.out.trans (hb.mono HB1.out.size)); clear hsr hb his)
    have hl1 : l.length ≤ 1000000 := by rw [HN.out]; omega
    have CGt := fun (u : Nat) (hu : u < 4294967296) w (hb : Below w2.heap.size w2 w) => tGet_c (HS.out.below hb) HT.out u hu
    have CRk := fun (u : Nat) (hu : u < 4294967296) w (hb : Below w2.heap.size w2 w) => tRank_c (HS.out.below hb) HT.out HUP.out hl1 u hu
    have CSl := fun (k : Nat) (hk : k ≤ 60) w (hb : Below w2.heap.size w2 w) => tSelect_c (HS.out.below hb) HT.out HUP.out hl1 k (by omega)
    unfold iS rV at CGt CSl
    unfold iS at CRk
    have HGt := Lib.hid CGt
    have HRk := Lib.hid CRk
    have HSl := Lib.hid CSl
    have hb8 : Below w2.heap.size w2 (w2.alloc (.cells #[.int .i64 r, .int .i64 H] 28)) := (Below.refl _ _).alloc (Nat.le_refl _) _
    have ht8 := TB.new w2 r H
    obtain ⟨wA, hwA⟩ : ∃ wA, w2.alloc (.cells #[.int .i64 r, .int .i64 H] 28) = wA := ⟨_, rfl⟩
    rw [hwA] at hb8 ht8 ⊢
    have HB8 := Lib.hid hb8
    have HT8 := Lib.hid ht8
    clear CGt CRk CSl hb8 ht8 hwA HCS HCG hl1
    obtain ⟨B6, hB6⟩ : ∃ B6, w2.heap.size = B6 := ⟨_, rfl⟩
    have HBB6 := Lib.hid hB6
    rw [hB6] at HT8 ⊢
    clear hB6
    have HZ : Hid (Below wA.heap.size wA wA) := Below.refl _ _
    go_wp2_with fail
    go_loopw [7] (fun kv wr => ∃ (k : Nat), k ≤ N ∧ kv = .int .i64 k ∧ Hid (Below wA.heap.size wA wr)) (fun kv _ => N - (intOf kv).toNat)
    case atStart => exact ⟨0, Nat.zero_le _, rfl, HZ⟩
    case round =>
      obtain ⟨k, hk, rfl, HBr⟩ := hrel
      clear HZ
      have hl6 : B6 < wA.heap.size := HT8.out.lt
      have HB2r := Lib.hid (HB8.out.trans (HBr.out.mono HB8.out.size))
      have HT8r := Lib.hid (HT8.out.below HBr.out hl6)
      obtain ⟨c0, c1⟩ := HT8r.out.cell
      have hlt8 := HT8r.out.lt
      by_cases hlt : k < N
      · have g1 : (k : Int) < N := by omega
        obtain ⟨q, hq⟩ : ∃ q, l[k]? = some q := ⟨_, List.getElem?_eq_getElem (by rw [HN.out]; exact hlt)⟩
        have hqu : q.uid < 4294967296 := HUP.out.2 q (List.mem_of_getElem? hq)
        have KS := HSl.out k (by omega) wr HB2r.out
        have KG := fun w hb => HGt.out q.uid hqu w hb
        have KR := fun w hb => HRk.out q.uid hqu w hb
        have KN := fun (h : q.uid < 4294967295) w hb => HRk.out (q.uid + 1) (by omega) w hb
        rw [selOf_nat, hq] at KS
        rw [get_self HUP.out hq] at KG
        rw [rank_self HUP.out hq] at KR
        rw [rank_next HUP.out hq] at KN
        dsimp only at KS KG
        obtain ⟨qu, qf, qt⟩ := q
        dsimp only at KS KG KR KN hqu
        have e1 : ((qu + 1 : Nat) : Int) = (qu : Int) + 1 := by omega
        have e2 : ((k + 1 : Nat) : Int) = (k : Int) + 1 := by omega
        rw [e1, e2] at KN
        have HKS := Lib.hid KS
        have HKG := Lib.hid KG
        have HKR := Lib.hid KR
        have HKN := Lib.hid KN
        clear KS KG KR KN e1 e2 hq
        go_upto_region 8 with (go_at_call 19; refine HKS.out.mono ?_; rintro e w3 ⟨rfl, hb3⟩; have HB3 := Lib.hid (HB2r.out.trans (hb3.mono HB2r.out.size)); have HT3 := Lib.hid (HT8r.out.below hb3 hlt8); have HX3 := Lib.hid (HBr.out.trans (hb3.mono HBr.out.size)); clear hb3)
        have h9 := Tri.new w3 33 (.int .u32 qu) (.int .u8 qf) (.string qt)
        have hb9 : Below w3.heap.size w3 (w3.alloc (.cells #[.int .u32 qu, .int .u8 qf, .string qt] 33)) := (Below.refl _ _).alloc (Nat.le_refl _) _
        obtain ⟨wB, hwB⟩ : ∃ wB, w3.alloc (.cells #[.int .u32 qu, .int .u8 qf, .string qt] 33) = wB := ⟨_, rfl⟩
        rw [hwB] at h9 hb9 ⊢
        have HB4 := Lib.hid (HB3.out.trans (hb9.mono HB3.out.size))
        have HX4 := Lib.hid (HX3.out.trans (hb9.mono HX3.out.size))
        have HT4 := Lib.hid (HT3.out.below hb9 HT3.out.lt)
        have HU4 := Lib.hid h9
        obtain ⟨B8, hB8⟩ : ∃ B8, w3.heap.size = B8 := ⟨_, rfl⟩
        rw [hB8] at HU4 ⊢
        clear h9 hb9 hwB hB8 c0 c1 hlt8 HKS HB3 HX3 HT3
        obtain ⟨c0, c1⟩ := HT4.out.cell
        obtain ⟨y0, y1, y2, _, _, _⟩ := HU4.out.cell
        have hlt8 := HT4.out.lt
        have hlt9 := HU4.out.lt
        go_upto_region 9 with (go_at_call 11; refine (HKG.out _ HB4.out).mono ?_; rintro e w5 ⟨rfl, hb5⟩; have HB5 := Lib.hid (HB4.out.trans (hb5.mono HB4.out.size)); have HX5 := Lib.hid (HX4.out.trans (hb5.mono HX4.out.size)); have HT5 := Lib.hid (HT4.out.below hb5 hlt8); have HU5 := Lib.hid (HU4.out.below hb5 hlt9); clear hb5)
        have h10 := Tri.new w5 33 (.int .u32 qu) (.int .u8 qf) (.string qt)
        have hb10 : Below w5.heap.size w5 (w5.alloc (.cells #[.int .u32 qu, .int .u8 qf, .string qt] 33)) := (Below.refl _ _).alloc (Nat.le_refl _) _
        obtain ⟨wC, hwC⟩ : ∃ wC, w5.alloc (.cells #[.int .u32 qu, .int .u8 qf, .string qt] 33) = wC := ⟨_, rfl⟩
        rw [hwC] at h10 hb10 ⊢
        have HB6 := Lib.hid (HB5.out.trans (hb10.mono HB5.out.size))
        have HX6 := Lib.hid (HX5.out.trans (hb10.mono HX5.out.size))
        have HT6 := Lib.hid (HT5.out.below hb10 HT5.out.lt)
        have HU6 := Lib.hid (HU5.out.below hb10 HU5.out.lt)
        have HV6 := Lib.hid h10
        obtain ⟨B10, hB10⟩ : ∃ B10, w5.heap.size = B10 := ⟨_, rfl⟩
        rw [hB10] at HV6 ⊢
        clear h10 hb10 hwC hB10 c0 c1 y0 y1 y2 hlt8 hlt9 HKG HB5 HX5 HT5 HU5 HB4 HX4 HT4 HU4
        obtain ⟨c0, c1⟩ := HT6.out.cell
        obtain ⟨y0, y1, y2, _, _, _⟩ := HU6.out.cell
        obtain ⟨z0, z1, z2, _, _, _⟩ := HV6.out.cell
        have hlt8 := HT6.out.lt
        have hlt9 := HU6.out.lt
        have hlt10 := HV6.out.lt
        by_cases hmx : qu < 4294967295
        · have g2 : (qu : Int) < 4294967295 := by omega
          have HKN2 := Lib.hid (HKN.out hmx)
          go_wp2_with (first
            | (go_at_call 14; refine (HKN2.out _ HB7.out).mono ?_; rintro e w8 ⟨rfl, hb8⟩; have HX8 := Lib.hid (HX7.out.trans (hb8.mono HX7.out.size)); clear hb8)
            | (go_at_call 14; refine (HKR.out _ HB6.out).mono ?_; rintro e w7 ⟨rfl, hb7⟩; obtain ⟨x0, x1⟩ := (HT6.out.below hb7 hlt8).cell; obtain ⟨v0, v1, v2, _, _, _⟩ := (HU6.out.below hb7 hlt9).cell; have hl27 : B6 < w7.heap.size := Nat.lt_of_lt_of_le hlt8 hb7.size; have hl28 : B8 < w7.heap.size := Nat.lt_of_lt_of_le hlt9 hb7.size; have HB7 := Lib.hid (HB6.out.trans (hb7.mono HB6.out.size)); have HX7 := Lib.hid (HX6.out.trans (hb7.mono HX6.out.size)); clear hb7))
          go_roundw
          case rel => exact ⟨k + 1, by omega, by go_num, HX8⟩
          case measure => simp [intOf]; omega
        · have g2 : decide ((qu : Int) < 4294967295) = false := decide_eq_false (by omega)
          clear hmx hqu HKN
          go_wp2_with (go_at_call 14; refine (HKR.out _ HB6.out).mono ?_; rintro e w7 ⟨rfl, hb7⟩; obtain ⟨x0, x1⟩ := (HT6.out.below hb7 hlt8).cell; obtain ⟨v0, v1, v2, _, _, _⟩ := (HU6.out.below hb7 hlt9).cell; have hl27 : B6 < w7.heap.size := Nat.lt_of_lt_of_le hlt8 hb7.size; have hl28 : B8 < w7.heap.size := Nat.lt_of_lt_of_le hlt9 hb7.size; have HX7 := Lib.hid (HX6.out.trans (hb7.mono HX6.out.size)); clear hb7)
          go_roundw
          case rel => exact ⟨k + 1, by omega, by go_num, HX7⟩
          case measure => simp [intOf]; omega
      · obtain rfl : k = N := by omega
        have g1 : ¬ (k : Int) < k := by omega
        have KS := HSl.out k (by omega) wr HB2r.out
        rw [selOf_nat, List.getElem?_eq_none (by rw [HN.out]; exact Nat.le_refl _)] at KS
        unfold noR at KS
        dsimp only at KS
        have HKS := Lib.hid KS
        clear KS
        have HWr := Lib.hid (HB2.out.trans (HB2r.out.mono HB2.out.size))
        go_wp2_with (first
          | (go_at_call 19; refine HKS.out.mono ?_; rintro e w3 ⟨rfl, hb3⟩; have HW3 := Lib.hid (HWr.out.trans (hb3.mono HWr.out.size)); clear hb3)
          | (go_at_call 20; refine (HAW.out _).mono ?_; rintro e w10 ⟨rfl, hb10⟩; have HW10 := Lib.hid ((HW3.out.alloc HW3.out.size _).trans (hb10.mono (HW3.out.alloc HW3.out.size _).size)); clear hb10))
        go_ret
        exact ⟨rfl, HW10.out⟩
end Go.Proofs.Ytbgiehfklfojkaa

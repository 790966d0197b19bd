/-
  The document's May; the program's find, Seq, may; slices.Clone, slices.Delete at a list: contracts.
-/
import Derived.Test.YtebkpejiloabnaaLs2
import Derived.Test.YtebkpejiloabnaaLs4
import Derived.Test.YtebkpejiloabnaaOwnK
import Derived.RangeFuncBox
import Derived.Deep.RegionLaw
set_option linter.unusedVariables false
set_option linter.unusedSimpArgs false
namespace Go.Proofs.Ytebkpejiloabnaa
open Go Go.RowKit
variable {W W' : World} {v va vb : Value} {l now : List EL}

/-- A block of two cells. -/
def Duo (W : World) (B : Nat) (t : TypeId) (a b : Value) : Prop := W.heap[B]? = some (.cells #[a, b] t (0, 0))
theorem Duo.new (W : World) (t : TypeId) (a b : Value) : Duo (W.alloc (.cells #[a, b] t)) W.heap.size t a b := heap_alloc_new W _
theorem Duo.lt {W : World} {B : Nat} {t : TypeId} {a b : Value} (h : Duo W B t a b) : B < W.heap.size := (Array.getElem?_eq_some_iff.1 h).1
theorem Duo.cell {W : World} {B : Nat} {t : TypeId} {a b : Value} (h : Duo W B t a b) :
    W.cell? ⟨B, 0, none⟩ = some a ∧ W.cell? ⟨B, 1, none⟩ = some b ∧ W.frozen? ⟨B, 0, none⟩ = false ∧ W.frozen? ⟨B, 1, none⟩ = false := by
  have h' : W.heap[B]? = _ := h
  refine ⟨?_, ?_, ?_, ?_⟩
  all_goals simp [World.cell?, World.frozen?, h']
theorem Duo.set0 {W : World} {B : Nat} {t : TypeId} {a b : Value} (v : Value) (h : Duo W B t a b) : Duo (W.setCell ⟨B, 0, none⟩ v) B t v b := by
  obtain ⟨hlt, hk⟩ := Array.getElem?_eq_some_iff.1 h
  show (W.heap.modify B _)[B]? = _
  rw [Array.getElem?_eq_getElem (by rw [Array.size_modify]; exact hlt), Array.getElem_modify_self, hk]
  rfl
theorem Duo.set1 {W : World} {B : Nat} {t : TypeId} {a b : Value} (v : Value) (h : Duo W B t a b) : Duo (W.setCell ⟨B, 1, none⟩ v) B t a v := by
  obtain ⟨hlt, hk⟩ := Array.getElem?_eq_some_iff.1 h
  show (W.heap.modify B _)[B]? = _
  rw [Array.getElem?_eq_getElem (by rw [Array.size_modify]; exact hlt), Array.getElem_modify_self, hk]
  rfl
theorem Duo.below {W W' : World} {B D : Nat} {t : TypeId} {a b : Value} (h : Duo W B t a b) (hb : Below D W W') (hB : B < D) : Duo W' B t a b := (hb.block B hB).trans h

theorem results_lfind (tmps : Array Value) (w : World) (B : Nat) (a b c : Value) (h : Duo w B 35 a b) (h2 : tmps.getD 4 undef = .pointer (some ⟨B, 0, none⟩)) (h3 : tmps.getD 5 undef = c) : (results Try.f21 tmps).run Try.prog w = .ok (.tuple #[.agg #[a, b], c]) w := by
  obtain ⟨c0, c1, _⟩ := h.cell
  have h2' : tmps[4]?.getD undef = .pointer (some ⟨B, 0, none⟩) := by simpa using h2
  have h3' : tmps[5]?.getD undef = c := by simpa using h3
  simp [results, Try.f21, go_sem, h2', h3', c0, c1]
set_option maxRecDepth 20000 in
set_option maxHeartbeats 1000000 in
theorem lfind_c (hl : EntRow W v l) (hu : UpE l) (u : Nat) (hm : l.length ≤ 10000000) : Calls Try.prog 21 #[v, .int .u32 u] W fun e w' => e = .returned (.tuple #[eV (getE l u).1, .bool (getE l u).2]) ∧ Below W.heap.size W w' := by
  have hT := Duo.new W 35 (.int .u32 0) (.int .u8 0)
  have hB := (Below.refl W.heap.size W).alloc (Nat.le_refl _) (.cells #[.int .u32 0, .int .u8 0] 35)
  have CS := Lib.hid (bsearchL_c (hl.below hB) hu u hm)
  obtain ⟨ad, cp, rfl⟩ := hl.form
  obtain ⟨N, hN⟩ : ∃ N, l.length = N := ⟨_, rfl⟩
  have HU := Lib.hid hu
  rw [hN] at hl hm CS ⊢
  have HL := Lib.hid hl
  have HN := Lib.hid hN
  have HT := Lib.hid hT
  have HB := Lib.hid hB
  clear hl hN hu hT hB
  go_enter Try.func21, Try.ntmps21
  go_wp2_with fail
  obtain ⟨D, hD⟩ : ∃ D, W.heap.size = D := ⟨_, rfl⟩
  obtain ⟨W1, hW1⟩ : ∃ W1, W.alloc (.cells #[.int .u32 0, .int .u8 0] 35) = W1 := ⟨_, rfl⟩
  rw [hW1] at HT HB CS ⊢
  rw [hD] at HT ⊢
  have HDD : Hid (W.heap.size = D) := hD
  clear hW1 hD
  refine CS.out.mono ?_
  rintro e w5 ⟨k, hk, hb5, ⟨q, hq, hqu, rfl⟩ | ⟨hno, rfl⟩⟩
  · have hkN : (k : Int) < N := by have := (List.getElem?_eq_some_iff.1 hq).1; have := HN.out; omega
    have hk0 : (0 : Int) ≤ k := by omega
    have HG := Lib.hid (getE_at HU.out hq hqu)
    have hT5 := HT.out.below hb5 HT.out.lt
    have hB5 := HB.out.trans (hb5.mono HB.out.size)
    obtain ⟨b, off, rfl, hb, c0, c1⟩ := EntRow.at (HL.out.below hB5) hq
    obtain ⟨d0, d1, f0, f1⟩ := hT5.cell
    have d3 := hT5.lt
    have HT6 := Lib.hid ((hT5.set0 (.int .u32 q.uid)).set1 (.int .u8 q.fl))
    have HB6 := Lib.hid ((hB5.setCell (p := ⟨D, 0, none⟩) (by have := HDD.out; show _ ≤ D; omega) (.int .u32 q.uid)).setCell (p := ⟨D, 1, none⟩) (by have := HDD.out; show _ ≤ D; omega) (.int .u8 q.fl))
    have HB5 := Lib.hid hB5
    clear hq hqu hT5 hB5 hb5 hk
    go_wp2_with fail
    refine bodyPost_ret (results_lfind _ _ _ _ _ _ HT6.out rfl rfl) rfl ⟨by rw [HG.out]; rfl, HB6.out⟩
  · have HG := Lib.hid hno
    have hT5 := HT.out.below hb5 HT.out.lt
    have hB5 := HB.out.trans (hb5.mono HB.out.size)
    obtain ⟨d0, d1, f0, f1⟩ := hT5.cell
    have d3 := hT5.lt
    have HT6 := Lib.hid ((hT5.set0 (.int .u32 0)).set1 (.int .u8 0))
    have HB6 := Lib.hid ((hB5.setCell (p := ⟨D, 0, none⟩) (by have := HDD.out; show _ ≤ D; omega) (.int .u32 0)).setCell (p := ⟨D, 1, none⟩) (by have := HDD.out; show _ ≤ D; omega) (.int .u8 0))
    clear hT5 hB5 hb5 hk hno
    go_wp2_with fail
    refine bodyPost_ret (results_lfind _ _ _ _ _ _ HT6.out rfl rfl) rfl ⟨by rw [HG.out]; rfl, HB6.out⟩

theorem seq1_c (e : EL) (B u : Nat) (W : World) (hb : Boxed W B 32 (.int .u32 u)) : Calls Try.prog 27 #[.agg #[.int .u32 e.uid, .int .u8 e.fl], .pointer (some ⟨B, 0, none⟩)] W fun r w' => r = .returned (.bool (decide (e.uid = u))) ∧ Below W.heap.size W w' := by
  have HB := Lib.hid ((Below.refl W.heap.size W).alloc (Nat.le_refl _) (.cells #[.int .u32 e.uid, .int .u8 e.fl] 35))
  have c0 := hb.cell
  have c1 := hb.lt
  clear hb
  by_cases h : e.uid = u
  · have g : ((e.uid : Int) == (u : Int)) = true := by rw [beq_iff_eq]; omega
    have HG := Lib.hid (decide_eq_true h)
    clear h
    go_enter Try.func27, Try.ntmps27
    go_wp2_with fail
    go_ret
    exact ⟨by rw [HG.out]; rfl, HB.out⟩
  · have g : ((e.uid : Int) == (u : Int)) = false := by rw [beq_eq_false_iff_ne]; omega
    have HG := Lib.hid (decide_eq_false h)
    clear h
    go_enter Try.func27, Try.ntmps27
    go_wp2_with fail
    go_ret
    exact ⟨by rw [HG.out]; rfl, HB.out⟩
set_option maxRecDepth 20000 in
set_option maxHeartbeats 1000000 in
theorem indexFL_c (hl : EntRow W v l) (B u : Nat) (hb : Boxed W B 32 (.int .u32 u)) (hm : l.length ≤ 10000000) :
    Calls Try.prog 26 #[v, .func (.func 27) #[] #[.pointer (some ⟨B, 0, none⟩)]] W fun e w' => e = .returned (.int .i64 (findI l u)) ∧ Below W.heap.size W w' := by
  obtain ⟨ad, cp, rfl⟩ := hl.form
  obtain ⟨N, hN⟩ : ∃ N, l.length = N := ⟨_, rfl⟩
  rw [hN] at hl hm ⊢
  have HL := Lib.hid hl
  have HN := Lib.hid hN
  have HX := Lib.hid hb
  clear hl hN hb
  go_enter Try.func26, Try.ntmps26
  go_wp2_with fail
  go_loopw [8] (fun i wr => ∃ (k : Nat), k ≤ N ∧ i = .int .i64 k ∧ Hid (∀ j q, j < k → l[j]? = some q → q.uid ≠ u) ∧ Hid (Below W.heap.size W wr)) (fun i _ => N - (intOf i).toNat)
  case atStart => exact ⟨0, Nat.zero_le _, rfl, fun j q h => by omega, Below.refl _ _⟩
  case round =>
    obtain ⟨k, hk, rfl, HF, HB⟩ := hrel
    by_cases hlt : k < N
    · have hq : (k : Int) < N := by omega
      have hq0 : (0 : Int) ≤ k := by omega
      obtain ⟨r, hr⟩ : ∃ r, l[k]? = some r := ⟨_, List.getElem?_eq_getElem (by have := HN.out; omega)⟩
      obtain ⟨b, off, rfl, hbb, c0, c1⟩ := EntRow.at (HL.out.below HB.out) hr
      have CC := Lib.hid (seq1_c r B u wr ((HB.out.block B HX.out.lt).trans HX.out))
      by_cases hu : r.uid = u
      · have hd := decide_eq_true hu
        rw [hd] at CC
        have HG := Lib.hid (findI_at hr hu HF.out)
        clear hr hu hd
        go_wp2_with fail
        refine CC.out.mono ?_
        rintro e w5 ⟨rfl, hb5⟩
        have HB5 := Lib.hid (HB.out.trans (hb5.mono HB.out.size))
        clear hb5 c0 c1
        go_wp2_with fail
        go_ret
        exact ⟨by rw [HG.out]; rfl, HB5.out⟩
      · have hd := decide_eq_false hu
        rw [hd] at CC
        have HS : Hid (∀ j q, j < k + 1 → l[j]? = some q → q.uid ≠ u) := by
          intro j q hj hq2
          by_cases e : j = k
          · subst e; rw [hr] at hq2; cases hq2; exact hu
          · exact HF.out j q (by omega) hq2
        clear hr hu hd
        go_wp2_with fail
        refine CC.out.mono ?_
        rintro e w5 ⟨rfl, hb5⟩
        have HB5 := Lib.hid (HB.out.trans (hb5.mono HB.out.size))
        clear hb5 c0 c1
        go_wp2_with fail
        go_roundw
        case rel => exact ⟨k + 1, by omega, by go_num, HS.out, HB5.out⟩
        case measure => simp [intOf]; omega
    · obtain rfl : k = N := by omega
      have hq : ¬ (k : Int) < k := by omega
      have HG : Hid (findI l u = -1) := findI_none fun e he => by
        obtain ⟨j, hj, hje⟩ := List.mem_iff_getElem.1 he
        exact HF.out j e (by have := HN.out; omega) (by rw [← hje]; exact List.getElem?_eq_getElem hj)
      go_wp2_with fail
      go_ret
      exact ⟨by rw [HG.out]; rfl, HB.out⟩
theorem lSeq_c (hl : EntRow W v l) (u : Nat) (hm : l.length ≤ 10000000) : Calls Try.prog 16 #[v, .int .u32 u] W fun e w' => e = .returned (.int .i64 (findI l u + 1)) ∧ Below W.heap.size W w' := by
  have hB := (Below.refl W.heap.size W).alloc (Nat.le_refl _) (.cells #[.int .u32 u] 32)
  have CI := Lib.hid (indexFL_c (hl.below hB) W.heap.size u (Boxed.new W _ _) hm)
  obtain ⟨i1, i2⟩ := findI_ge l u
  obtain ⟨x, hx⟩ : ∃ x, findI l u = x := ⟨_, rfl⟩
  rw [hx] at i1 i2 CI ⊢
  have i3 : x + 1 ≤ 9223372036854775807 := by omega
  have HB := Lib.hid hB
  clear hB hl hx
  go_enter Try.func16, Try.ntmps16
  go_wp2_with fail
  refine CI.out.mono ?_
  rintro e w5 ⟨rfl, hb5⟩
  have HB5 := Lib.hid (HB.out.trans (hb5.mono HB.out.size))
  clear hb5
  go_wp2_with fail
  go_ret
  exact ⟨rfl, HB5.out⟩

section
variable {α : Type} {k : Nat} {enc : α → List Value}
theorem cellsK_get (hk : ∀ x, (enc x).length = k) (hp : 0 < k) (l : List α) : ∀ (j : Nat) (u : Value), (cellsK enc l)[j]? = some u → ∃ x, l[j / k]? = some x ∧ (enc x)[j % k]? = some u := by
  induction l with
  | nil => intro j u h; simp [cellsK] at h
  | cons a t ih =>
    intro j u h
    rw [cellsK_cons] at h
    by_cases hj : j < k
    · rw [List.getElem?_append_left (by rw [hk]; exact hj)] at h
      rw [Nat.div_eq_of_lt hj, Nat.mod_eq_of_lt hj]
      exact ⟨a, rfl, h⟩
    · rw [List.getElem?_append_right (by rw [hk]; omega), hk] at h
      obtain ⟨x, h1, h2⟩ := ih _ _ h
      have e1 : j / k = (j - k) / k + 1 := Nat.div_eq_sub_div hp (by omega)
      have e2 : j % k = (j - k) % k := Nat.mod_eq_sub_mod (by omega)
      rw [e1, e2]
      exact ⟨x, by simpa using h1, h2⟩
theorem RowK.news (hk : ∀ x, (enc x).length = k) (hp : 0 < k) {ad : Addr} {n cap : Nat} {l : List α} (h : RowK k enc W (.slice (some ad) n cap) l) : ∀ j u, (cellsK enc l)[j]? = some u → W.cell? (ad.add j) = some u := by
  intro j u hj
  obtain ⟨x, h1, h2⟩ := cellsK_get hk hp l j u hj
  obtain ⟨b, off, he, _, hc⟩ := RowK.at h h1
  cases he
  rw [Addr.add_mid]
  have := hc _ _ h2
  rw [Nat.add_assoc, Nat.mul_comm (j / k), Nat.div_add_mod] at this
  exact this
end
theorem cellsE_one (l : List EL) : ∀ u ∈ cellsK encE l, u.oneCell' = true := by
  intro u hu
  obtain ⟨x, _, hx⟩ := List.mem_flatMap.1 hu
  simp only [encE, List.mem_cons, List.not_mem_nil, or_false] at hx
  rcases hx with rfl | rfl <;> rfl

set_option maxRecDepth 20000 in
set_option maxHeartbeats 800000 in
theorem cloneL_c (h : EntRow W v l) (hm : l.length ≤ 100000000) :
    Calls Try.prog 23 #[v] W fun e w' => ∃ v', e = .returned v' ∧ w'.ownsRow W.heap.size 35 2 v' l.length (cellsK encE l) ∧ Below W.heap.size W w' := by
  obtain ⟨i0, hi0, hz0, hz1, hz2⟩ := info_parts infoE
  have hr := h
  rcases h with ⟨rfl, rfl⟩ | ⟨ad, cap, rfl, h⟩
  · have hq : ∀ W, (binOp .eql 26 (.slice none 0 0) (.slice none 0 0)).run Try.prog W = .ok (.bool true) W := fun W => by kernel_rfl
    go_enter Try.func23, Try.ntmps23
    go_wp2_with fail
    go_ret
    exact ⟨_, rfl, World.ownsRow_nil _ _ _ _, Below.refl _ _⟩
  · have hn := RowK.news encE_len (by omega) (hr.below ((Below.refl W.heap.size W).alloc (Nat.le_refl _) (.cells #[] 35)))
    have hlen : (cellsK encE l).length = l.length * 2 := cellsK_len encE_len l
    obtain ⟨N, hN⟩ : ∃ N, l.length = N := ⟨_, rfl⟩
    rw [hN] at hm hlen ⊢
    have ho : (W.alloc (.cells #[] 35)).ownsRow W.heap.size 35 2 (.slice (some ⟨W.heap.size, 0, none⟩) 0 0) 0 [] :=
      ⟨rfl, .inr ⟨_, 0, #[], rfl, Nat.le_refl _, heap_alloc_new _ _, by simp, by simp, by simp⟩⟩
    have HX := Lib.hid (cellsE_one l)
    have HLE := Lib.hid hlen
    have HNN := Lib.hid hn
    have hq : ∀ W, (binOp .eql 26 (.slice (some ad) N cap) (.slice none 0 0)).run Try.prog W = .ok (.bool false) W := fun W => by kernel_rfl
    clear h hr hn hlen hN
    go_enter Try.func23, Try.ntmps23
    go_wp2_with (at_builtin; refine wpList_append_own _ rfl (.tmp 5) (.tmp 6) 26 rfl W.heap.size 35 i0 (.agg #[.int .u32 0, .int .u8 0]) 2 8 Try.underlying26 hi0 hz0 hz1 hz2 rfl (by decide) _ _ _ rfl ho ad N cap (cellsK encE l) rfl HLE.out HNN.out HX.out (by unfold maxLen; omega) (by omega) (by simp) ?_)
    intro v' w' hown hgrow _
    go_wp2_with fail
    go_ret
    refine ⟨_, rfl, ?_, ((Below.refl W.heap.size W).alloc (Nat.le_refl _) _).grown hgrow (by simp) (fun q hq => ?_)⟩
    · exact hown
    · cases hq; exact Nat.le_refl _
end Go.Proofs.Ytebkpejiloabnaa

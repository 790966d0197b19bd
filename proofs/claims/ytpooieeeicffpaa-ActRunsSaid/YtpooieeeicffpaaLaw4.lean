/-
  The law's own helpers, and a machine that gets one act more.
-/
import Derived.Test.YtpooieeeicffpaaLogM
set_option linter.unusedVariables false
set_option linter.unusedSimpArgs false
namespace Go.Proofs.Ytpooieeeicffpaa
open Go Go.RowKit

/-- A new act: its block, its boxes, from D on. -/
def NewAct (W : World) (B Bx n name Lb sl : Nat) : Prop :=
  (n = 0 ∧ ActAt W B .nilFunc 0) ∨ (0 < n ∧ ActAt W B (fv 61 (cap3 Bx)) 0 ∧ Clo W Bx n name Lb sl)
def Steps (W : World) (n name Lb sl : Nat) (e : Ending) (w' : World) : Prop :=
  ∃ B Bx, e = .returned (pa B) ∧ W.heap.size ≤ B ∧ W.heap.size ≤ Bx ∧ NewAct w' B Bx n name Lb sl ∧ Below W.heap.size W w'

set_option maxHeartbeats 800000 in
theorem steps_c (n name Lb sl : Nat) (hn : n ≤ 1000) (W : World) : Calls Try.prog 12 #[.int .i64 n, .int .i64 name, ptrV Lb sl] W fun e w' => Steps W n name Lb sl e w' := by
  by_cases h0 : n = 0
  · subst h0
    have C := Lib.hid (aNew_none W)
    go_enter Try.func12, Try.ntmps12
    go_wp2_with fail
    refine C.out.mono ?_
    rintro e w' ⟨rfl, rfl⟩
    go_wp2_with fail
    go_ret
    exact ⟨_, W.heap.size, rfl, Nat.le_refl _, Nat.le_refl _, .inl ⟨rfl, heap_alloc_new W _⟩, (Below.refl _ _).alloc (Nat.le_refl _) _⟩
  · have q : ¬ ((n : Int) ≤ 0) := by omega
    have C1 := Lib.hid (next_c n name Lb sl W)
    unfold ptrV at C1 ⊢
    go_enter Try.func12, Try.ntmps12
    go_wp2_with fail
    refine C1.out.mono ?_
    rintro e w1 ⟨rfl, hc, hb, hs⟩
    have HS := Lib.hid hs
    clear hs
    have C2 := Lib.hid (aNew_some 61 (cap3 W.heap.size) w1)
    go_wp2_with fail
    refine C2.out.mono ?_
    rintro e w' ⟨rfl, rfl⟩
    go_wp2_with fail
    go_ret
    have hb2 : Below w1.heap.size w1 (w1.alloc (.cells #[fv 61 (cap3 W.heap.size), .int .i64 0] 97)) := (Below.refl _ _).alloc (Nat.le_refl _) _
    exact ⟨_, W.heap.size, rfl, hb.size, Nat.le_refl _, .inr ⟨by omega, heap_alloc_new w1 _, hc.later fun k hk => hb2.block k (by have := HS.out; omega)⟩, hb.trans (hb2.mono hb.size)⟩

/-- One act more. -/
def LP.add (p : LP) (B : Nat) : LP := { p with N := p.N + 1, pb := put1 p.pb p.N B }
def footOf (p : LP) (s : LS) (vs : Nat → Value) (bx : Nat → Nat) (k : Nat) : Prop :=
  k = p.Lb ∨ (∃ i, i < p.N ∧ k = p.pb i) ∨ (∃ j, j < p.K ∧ (vs j).ownBlock = some k) ∨ (∃ i, i < p.N ∧ s.d i < p.n i ∧ (k = bx i ∨ k = bx i + 1 ∨ k = bx i + 2))
theorem LM.add {p : LP} {s : LS} {F : Nat → Prop} {W W' : World} {vs : Nat → Value} {bx : Nat → Nat} {cur : Array Value} (h : LM p s F W vs bx cur) (hd : s.d p.N = 0) {B Bx : Nat} (hB : W.heap.size ≤ B) (hBx : W.heap.size ≤ Bx)
    (hb : Below W.heap.size W W') (ha : NewAct W' B Bx (p.n p.N) (p.nm p.N) p.Lb (p.sl p.N)) :
    LM (p.add B) s (footOf (p.add B) s vs (put1 bx p.N Bx)) W' vs (put1 bx p.N Bx) cur ∧ ∀ k, footOf (p.add B) s vs (put1 bx p.N Bx) k → F k ∨ W.heap.size ≤ k := by
  have hlt : ∀ k, F k → k < W.heap.size := fun k hk => by obtain ⟨c, e, fz, hc⟩ := h.inn hk; exact (Array.getElem?_eq_some_iff.1 hc).1
  have h' := h.stab (B := W') fun k hk => hb.block k (hlt k hk)
  have pbs : (p.add B).pb p.N = B := put1_same _ _ _
  have pbo : ∀ i, i < p.N → (p.add B).pb i = p.pb i := fun i hi => put1_other _ _ (by omega)
  have bxs : put1 bx p.N Bx p.N = Bx := put1_same _ _ _
  have bxo : ∀ i, i < p.N → put1 bx p.N Bx i = bx i := fun i hi => put1_other _ _ (by omega)
  have hN : ∀ i, i < (p.add B).N → i < p.N ∨ i = p.N := fun i hi => by have : i < p.N + 1 := hi; omega
  refine ⟨?_, ?_⟩
  · constructor
    case foot => exact fun k => Iff.rfl
    case log => exact h'.log
    case size => exact h'.size
    case slot => exact h'.slot
    case row => exact h'.row
    case len => exact h'.len
    case le =>
      intro i hi
      show s.d i ≤ p.n i
      rcases hN i hi with hi | rfl
      · exact h.le i hi
      · omega
    case go =>
      intro i hi hdi
      change s.d i < p.n i at hdi
      show ActAt W' ((p.add B).pb i) (fv 61 (cap3 (put1 bx p.N Bx i))) (s.d i) ∧ Clo W' (put1 bx p.N Bx i) (p.n i - s.d i) (p.nm i) p.Lb (p.sl i)
      rcases hN i hi with hi | rfl
      · rw [pbo i hi, bxo i hi]; exact h'.go i hi hdi
      · rw [pbs, bxs, hd]
        rcases ha with ⟨h0, _⟩ | ⟨h0, h1, h2⟩
        · omega
        · exact ⟨h1, h2⟩
    case fin =>
      intro i hi hdi
      change s.d i = p.n i at hdi
      rcases hN i hi with hi | rfl
      · rw [pbo i hi]; exact h'.fin i hi hdi
      · rw [pbs, hd]
        rcases ha with ⟨h0, h1⟩ | ⟨h0, _⟩
        · exact h1
        · omega
    case apart => exact h'.apart
    case box =>
      intro j i hj hi hdi k hk
      change s.d i < p.n i at hdi
      rcases hN i hi with hi | rfl
      · rw [bxo i hi]; exact h'.box j i hj hi hdi k hk
      · rw [bxs]
        have := ((h.row j hj).lt k hk).2
        omega
  · rintro k (rfl | ⟨i, hi, rfl⟩ | ⟨j, hj, hk⟩ | ⟨i, hi, hdi, hk⟩)
    · exact .inl ((h.foot _).2 (.inl rfl))
    · rcases hN i hi with hi | rfl
      · rw [pbo i hi]; exact .inl ((h.foot _).2 (.inr (.inl ⟨i, hi, rfl⟩)))
      · rw [pbs]; exact .inr hB
    · exact .inl ((h.foot _).2 (.inr (.inr (.inl ⟨j, hj, hk⟩))))
    · change s.d i < p.n i at hdi
      rcases hN i hi with hi | rfl
      · rw [bxo i hi] at hk; exact .inl ((h.foot _).2 (.inr (.inr (.inr ⟨i, hi, hdi, hk⟩))))
      · rw [bxs] at hk; exact .inr (by omega)
/-- No act yet, all logs empty. -/
theorem LM.start (p : LP) (hN : p.N = 0) {W : World} {cur : Array Value} (hL : Cells W p.Lb 23 cur) (hK : cur.size = p.K) (hc : ∀ j, j < p.K → cur[j]? = some (.slice none 0 0)) :
    LM p ⟨fun _ => 0, fun _ => [], 0⟩ (footOf p ⟨fun _ => 0, fun _ => [], 0⟩ (fun _ => .slice none 0 0) (fun _ => 0)) W (fun _ => .slice none 0 0) (fun _ => 0) cur := by
  constructor
  case foot => exact fun k => Iff.rfl
  case log => exact hL
  case size => exact hK
  case slot => exact hc
  case row => exact fun j hj => World.ownsRow_nil _ _ _ _
  case len => exact fun j hj => Nat.le_refl _
  case le => intro i hi; omega
  case go => intro i hi; omega
  case fin => intro i hi; omega
  case apart => intro j j' _ _ _ k hk; cases hk
  case box => intro j i hj hi; omega

set_option maxRecDepth 20000 in
set_option maxHeartbeats 2000000 in
theorem lengths_c (l : List Nat) (hl : l.length ≤ 1000) (hb : ∀ x ∈ l, x < 256) (pv : Value) (w : World) (hp : RowAt w pv (l.map fun n : Nat => Value.int .u8 n)) :
    Calls Try.prog 11 #[pv] w fun e w' => ∃ v, e = .returned v ∧ w'.ownsRow w.heap.size 3 1 v l.length (namesV (l.map (· % 20))) ∧ Below w.heap.size w w' := by
  obtain ⟨i0, hi0, hz0, hz1, hz2⟩ := info_parts infoInt
  obtain ⟨ad, cp, rfl⟩ := hp.form
  have hp2 : RowAt w (.slice ad l.length cp) (l.map fun n : Nat => Value.int .u8 n) := by
    have e : (l.map fun n : Nat => Value.int .u8 n).length = l.length := by simp
    rw [e] at hp; exact hp
  rw [show (l.map fun n : Nat => Value.int .u8 n).length = l.length by simp]
  obtain ⟨N, hN⟩ : ∃ N, N = l.length := ⟨_, rfl⟩
  rw [← hN] at hl hp2 ⊢
  have HP := Lib.hid hp2
  have HN := Lib.hid hN
  have HBB := Lib.hid hb
  obtain ⟨m, hm⟩ : ∃ m, l.map (· % 20) = m := ⟨_, rfl⟩
  have HM := Lib.hid hm
  rw [hm]
  clear hN hp hp2 hb hm
  go_enter Try.func11, Try.ntmps11
  go_wp2_with fail
  go_loopw [3, 4] (fun v i wr => ∃ (k : Nat), k ≤ N ∧ i = .int .i64 k ∧ Hid (wr.ownsRow w.heap.size 3 1 v k (namesV (m.take k))) ∧ Hid (Below w.heap.size w wr)) (fun _ i _ => N - (intOf i).toNat)
  case atStart => exact ⟨0, by omega, rfl, World.ownsRow_nil _ _ _ _, Below.refl _ _⟩
  case round =>
    obtain ⟨k, hk, rfl, HO, HB⟩ := hrel
    by_cases hlt : k < N
    · have hkl : k < l.length := by rw [← HN.out]; exact hlt
      obtain ⟨x, hx⟩ : ∃ x, l[k] = x := ⟨_, rfl⟩
      have hx2 : (l.map fun n : Nat => Value.int .u8 n)[k]? = some (.int .u8 x) := by simp [hkl, hx]
      obtain ⟨b, off, rfl, hbw, kc⟩ := HP.out.at hx2
      have hx3 := HBB.out x (by rw [← hx]; exact List.getElem_mem hkl)
      obtain ⟨a3, c3, hv⟩ := own_form HO.out
      subst hv
      have hq : (k : Int) < N := by omega
      have hc : wr.cell? ⟨b, off + k, none⟩ = some (.int .u8 x) := by rw [HB.out.cell (p := ⟨b, _, none⟩) hbw]; exact kc
      have HT : Hid (m.take (k + 1) = m.take k ++ [x % 20]) := by
        show _ = _
        rw [← HM.out, ← List.map_take, ← List.map_take, List.take_succ_eq_append_getElem hkl, hx, List.map_append]; rfl
      have hls := HB.out.size
      have hmod : ((x : Int) % 20 : Int) = ((x % 20 : Nat) : Int) := by omega
      clear kc hx hx2 hkl
      have hmb : x % 20 < 20 := Nat.mod_lt _ (by omega)
      obtain ⟨y, hy⟩ : ∃ y, x % 20 = y := ⟨_, rfl⟩
      rw [hy] at hmod HT hmb
      go_wp2_with (at_builtin; refine wpList_append_own _ rfl (.tmp 11) (.tmp 18) 23 rfl w.heap.size 3 i0 (.int .i64 0) 1 8 Try.underlying23 hi0 hz0 hz1 hz2 rfl (by decide) _ _ _ rfl (HO.out.alloc _) ⟨wr.heap.size, 0, none⟩ 1 1 [.int .i64 y] rfl rfl (World.news_of_block (cs := #[.int .i64 y]) (t := 3) (fr := (0, 0)) (by first | exact heap_alloc_new wr _ | (rw [← hmod]; exact heap_alloc_new wr _))) (fun u hu => by simp at hu; subst hu; rfl) (by unfold maxLen; omega) (by omega) (by simp; omega) ?_)
      intro v' w3 hown3 hgrow _
      have hb3 : Below w.heap.size w w3 := (HB.out.alloc hls _).grown hgrow (by simp; omega) (fun q hq => (HO.out.lt q hq).1)
      have HO3 : Hid (w3.ownsRow w.heap.size 3 1 v' (k + 1) (namesV (m.take (k + 1)))) := by
        show World.ownsRow _ _ _ _ _ _ _
        rw [HT.out, namesV_snoc]; exact hown3
      have HB3 := Lib.hid hb3
      clear hown3 hb3 hgrow
      go_wp2_with fail
      go_roundw
      case rel => exact ⟨k + 1, by omega, by go_num, HO3.out, HB3.out⟩
      case measure => simp [intOf]; omega
    · obtain rfl : k = N := by omega
      go_wp2_with fail
      go_ret
      refine ⟨_, rfl, ?_, HB.out⟩
      have h := HO.out
      rw [List.take_of_length_le (by rw [← HM.out, List.length_map, ← HN.out]; exact Nat.le_refl _)] at h
      exact h
end Go.Proofs.Ytpooieeeicffpaa

/-
  A feed of the program: all bytes that come: contract.
-/
import Derived.Test.YtkmhdaalabhcbaaDoorFd5
import Derived.Test.YtkmhdaalabhcbaaDoorFd6
set_option linter.unusedVariables false
set_option linter.unusedSimpArgs false
namespace Go.Proofs.YtkmhdaalabhcbaaDoor
open Go Go.RowKit
variable {W W' : World} {g : Nat} {o : Option Nat} {s : FS}

theorem infoPc : (Tryd.prog.info? 40).map (fun i => (i.zero, i.size, i.bytes)) = some (some (.agg #[.int .i64 0, .string ⟨#[]⟩]), 2, 24) := by kernel_rfl
theorem takeF_at {l : List UInt8} {k : Nat} {c : UInt8} (h : l[k]? = some c) (s : FS) : takeF s (l.take (k + 1)) = ((stepF (takeF s (l.take k)).1 c).1, (takeF s (l.take k)).2 ++ (stepF (takeF s (l.take k)).1 c).2) := by
  rw [take_at' h, takeF_app, takeF_one]
/-- What stands in a round: what came so far. -/
structure TkR (W : World) (g : Nat) (o : Option Nat) (s : FS) (l : List UInt8) (k : Nat) (pv : Value) (m : Nat) (s1 : FS) (o1 : Option Nat) (ps : List Pc) (wr : World) : Prop where
  st : takeF s (l.take k) = (s1, ps)
  len : ps.length = m
  fa : FA wr g o1 s1
  mv : FMv g o o1 W wr
  row : wr.ownsRow W.heap.size 40 2 pv m (cellsK encP ps)
  ap : ∀ q, pv.ownBlock = some q → o1 ≠ some q
theorem TkR.nil {l : List UInt8} {pv : Value} {m k : Nat} {s1 s2 : FS} {o1 o2 : Option Nat} {ps : List Pc} {wr w5 : World} {c : UInt8} (h : TkR W g o s l k pv m s1 o1 ps wr) (hg : g < W.heap.size) (hc : l[k]? = some c) (h5 : stepF s1 c = (s2, [])) (hf : FA w5 g o2 s2) (hm : FMv g o1 o2 wr w5) : TkR W g o s l (k + 1) pv m s2 o2 ps w5 := by
  have hlt : ∀ q, pv.ownBlock = some q → q ≠ g ∧ q < wr.heap.size := fun q hq => by have := h.row.lt q hq; omega
  refine ⟨?_, h.len, hf, h.mv.trans hm, own_later h.row fun q hq => hm.blk q (hlt q hq).2 (hlt q hq).1 (h.ap q hq), fun q hq e => ?_⟩
  · rw [takeF_at hc, h.st]; dsimp only; rw [h5]; simp
  · rcases hm.nw q e with h2 | h2
    · exact h.ap q hq h2
    · have := (hlt q hq).2; omega
theorem TkR.app {l : List UInt8} {pv pv' : Value} {m k : Nat} {s1 s2 : FS} {o1 o2 : Option Nat} {ps : List Pc} {wr w5 w6 : World} {c : UInt8} {p : Pc} (h : TkR W g o s l k pv m s1 o1 ps wr) (hg : g < W.heap.size) (hc : l[k]? = some c) (h5 : stepF s1 c = (s2, [p])) (hf : FA w5 g o2 s2) (hm : FMv g o1 o2 wr w5)
    (hr : w6.ownsRow W.heap.size 40 2 pv' (m + 1) (cellsK encP ps ++ [.int .i64 (p.1 : Nat), .string (txt p.2)])) (hgr : w5.grownBy w6 pv.ownBlock) (hb : pv'.ownBlock = pv.ownBlock ∨ pv'.ownBlock = some w5.heap.size) : TkR W g o s l (k + 1) pv' (m + 1) s2 o2 (ps ++ [p]) w6 := by
  have hlt : ∀ q, pv.ownBlock = some q → q ≠ g ∧ q < wr.heap.size := fun q hq => by have := h.row.lt q hq; omega
  have hne : ∀ q, pv.ownBlock = some q → o2 ≠ some q := fun q hq e => by
    rcases hm.nw q e with h2 | h2
    · exact h.ap q hq h2
    · have := (hlt q hq).2; omega
  refine ⟨?_, by rw [List.length_append, h.len]; rfl, ?_, (h.mv.trans hm).grown hgr fun q hq => (h.row.lt q hq).1, ?_, fun q hq e => ?_⟩
  · rw [takeF_at hc, h.st]; dsimp only; rw [h5]
  · refine hf.later (hgr.block g hf.lt fun e => (hlt g e.symm).1 rfl) fun q hq => hgr.block q (hf.row q hq).2 fun e => hne q e.symm hq
  · rw [cellsK_app, cellsK_one]; exact hr
  · rcases hb with h2 | h2
    · exact hne q (h2.symm.trans hq) e
    · rw [h2] at hq; cases hq; have := (hf.row _ e).2; omega

set_option maxRecDepth 100000 in
set_option maxHeartbeats 4000000 in
theorem feTake_c (h : FA W g o s) (hok : s.Ok) (l : List UInt8) (hl : s.t.length + l.length ≤ 50000) (hE : Errs W) (hv1 : 1 < g) (hv2 : 2 < g) (ad : Option Addr) (cap : Nat) (hr : RBy W ad l) (hn : l ≠ [] → ∀ b, ad.map (·.block) = some b → b ≠ g ∧ o ≠ some b) :
    Calls Tryd.prog 5 #[pt g, .slice ad l.length cap] W fun e w' => ∃ o' pv, e = .returned pv ∧ w'.ownsRow W.heap.size 40 2 pv (takeF s l).2.length (cellsK encP (takeF s l).2) ∧ FA w' g o' (takeF s l).1 ∧ FMv g o o' W w' ∧ (∀ q, pv.ownBlock = some q → o' ≠ some q) := by
  obtain ⟨i0, hi0, hz0, hz1, hz2⟩ := info_parts infoPc
  have HK : Hid (∀ k ≤ l.length, (takeF s (l.take k)).1.Ok ∧ (takeF s (l.take k)).1.t.length ≤ 50000) := fun k hk => by
    have h1 : (l.take k).length ≤ l.length := by rw [List.length_take]; omega
    have h2 := takeF_ok (l.take k) hok (by omega)
    exact ⟨h2.1, by omega⟩
  have HM : Hid (∀ k, (takeF s (l.take k)).2.length ≤ k) := fun k => by
    have := takeF_few (l.take k) s
    rw [List.length_take] at this
    omega
  have hg := h.lt
  have HST : Hid (∀ {o1 : Option Nat} {wr : World} {s1 : FS} (n : Nat) (c : UInt8), FMv g o o1 W wr → FA wr g o1 s1 → s1.Ok → s1.t.length ≤ 50000 → n = c.toNat → Calls Tryd.prog (fnN s1.m) #[pt g, .int .u8 n] wr (StepP wr g o1 (stepF s1 c))) :=
    fun n c k1 k2 k3 k4 k5 => feStep_c k2 k3 k4 (h.errs k1 hE hv1 hv2) hv1 hv2 n c k5
  have HR : Hid (∀ {o1 : Option Nat} {wr : World}, FMv g o o1 W wr → RBy wr ad l) := fun k1 => by
    by_cases h0 : l = []
    · rw [h0]; intro j c hj; simp at hj
    · exact hr.moved k1 (hn h0)
  have H0 : Hid (TkR W g o s l 0 (.slice none 0 0) 0 s o [] W) := ⟨rfl, rfl, h, FMv.refl _ _ _, World.ownsRow_nil _ _ _ _, fun q hq => by cases hq⟩
  obtain ⟨N, hN⟩ : ∃ N, l.length = N := ⟨_, rfl⟩
  have HN := Lib.hid hN
  rw [hN] at hl HK ⊢
  have hN9 : N ≤ 50000 := by omega
  clear h hok hl hE hv1 hv2 hr hn hN
  go_enter Tryd.func5, Tryd.ntmps5
  go_wp2_with fail
  go_loopw [5, 10] (fun pv iv wr => ∃ (k m : Nat) (s1 : FS) (o1 : Option Nat) (ps : List Pc), k ≤ N ∧ m ≤ k ∧ iv = .int .i64 k ∧ Hid (TkR W g o s l k pv m s1 o1 ps wr)) (fun _ iv _ => N - (intOf iv).toNat)
  case atStart => exact ⟨0, 0, s, o, [], Nat.zero_le _, Nat.le_refl _, rfl, H0.out⟩
  case round =>
    obtain ⟨k, m, s1, o1, ps, hk, hmk, rfl, HT⟩ := hrel
    obtain ⟨pa, pc, hv⟩ := own_form HT.out.row
    subst hv
    by_cases hlt : k < N
    · have hq : (k : Int) < N := by omega
      have hq0 : (0 : Int) ≤ k := by omega
      obtain ⟨c, hc⟩ : ∃ c, l[k]? = some c := ⟨_, List.getElem?_eq_getElem (by have := HN.out; omega)⟩
      obtain ⟨b, off, rfl, hbb, c9⟩ := HR.out HT.out.mv k c hc
      have HC := Lib.hid hc
      have hs1 : s1.Ok ∧ s1.t.length ≤ 50000 := by
        have := HK.out k hk
        rw [HT.out.st] at this; exact this
      have C := HST.out (c.toNat) c HT.out.mv HT.out.fa hs1.1 hs1.2 rfl
      obtain ⟨tv, c0, _, _, _, _, ⟨f0, _⟩, _, _, h1⟩ := HT.out.fa.cells
      have hlg := h1.lt
      have hm := hs1.1.m
      obtain ⟨st, hst⟩ : ∃ st, stepF s1 c = st := ⟨_, rfl⟩
      rw [hst] at C
      have HSTP := Lib.hid hst
      obtain ⟨n, hn⟩ : ∃ n, c.toNat = n := ⟨_, rfl⟩
      have hn9 : n < 256 := by rw [← hn]; exact c.toNat_lt
      rw [hn] at c9 C
      clear hc hs1 h1 hst hn
      obtain ⟨nf, hnf⟩ : ∃ nf, fnN s1.m = nf := ⟨_, rfl⟩
      rw [hnf] at c0 C
      have C := Lib.hid C
      have hnn : nf = 11 ∨ nf = 18 ∨ nf = 20 ∨ nf = 29 := by
        rw [← hnf]; unfold fnN; split
        · exact .inl rfl
        · split
          · exact .inr (.inl rfl)
          · split
            · exact .inr (.inr (.inl rfl))
            · exact .inr (.inr (.inr rfl))
      clear hnf hm
      rcases hnn with rfl | rfl | rfl | rfl
      all_goals
        go_wp2_with fail
        refine C.out.mono ?_
        rintro e w5 ⟨o2, pv2, rfl, hp, k1, k2⟩
        rcases hp with ⟨hp1, rfl⟩ | ⟨p, bb, hp1, rfl, hbk⟩
        · have hT := HT.out.nil hg HC.out (by rw [HSTP.out, ← hp1]) k1 k2
          have HT5 := Lib.hid hT
          have ho5 := hT.row
          clear hT k1 k2 hp1
          go_wp2_with (at_builtin; refine wpList_append_own_none rfl (.tmp 14) (.tmp 20) 26 rfl W.heap.size 40 i0 2 Tryd.underlying26 hi0 _ m _ rfl ho5 rfl ?_)
          clear ho5
          go_wp2_with fail
          go_roundw
          case rel => exact ⟨k + 1, m, _, _, _, by omega, by omega, by go_num, HT5.out⟩
          case measure => simp [intOf]; omega
        · have ho5 : w5.ownsRow W.heap.size 40 2 (.slice pa m pc) m (cellsK encP ps) := own_later HT.out.row fun q hq => k2.blk q (HT.out.row.lt q hq).2 (by have := HT.out.row.lt q hq; omega) (HT.out.ap q hq)
          have HO5 := Lib.hid ho5
          have hW5 : W.heap.size ≤ w5.heap.size := Nat.le_trans HT.out.mv.size k2.size
          have HA : Hid (∀ pv' w6, w6.ownsRow W.heap.size 40 2 pv' (m + 1) (cellsK encP ps ++ [.int .i64 (p.1 : Nat), .string (txt p.2)]) → w5.grownBy w6 (Value.slice pa m pc).ownBlock → (pv'.ownBlock = (Value.slice pa m pc).ownBlock ∨ pv'.ownBlock = some w5.heap.size) → TkR W g o s l (k + 1) pv' (m + 1) st.1 o2 (ps ++ [p]) w6) :=
            fun pv' w6 q1 q2 q3 => HT.out.app hg HC.out (by rw [HSTP.out, ← hp1]) k1 k2 q1 q2 q3
          clear k1 k2 hp1 ho5
          obtain ⟨kd, hkd⟩ : ∃ x, p.1 = x := ⟨_, rfl⟩
          obtain ⟨X, hX⟩ : ∃ X, txt p.2 = X := ⟨_, rfl⟩
          rw [hkd, hX] at hbk HA
          clear hkd hX
          go_wp2_with (at_builtin; refine wpList_append_own_at _ rfl (.tmp 14) (.tmp 20) 26 rfl W.heap.size 40 i0 (.agg #[.int .i64 0, .string ⟨#[]⟩]) 2 24 Tryd.underlying26 hi0 hz0 hz1 hz2 rfl (by decide) _ m _ rfl HO5.out ⟨bb, 0, none⟩ 1 1 [.int .i64 kd, .string X] rfl rfl (World.news_of_block (cs := #[.int .i64 kd, .string X]) (t := 40) (fr := (0, 0)) hbk) (by simp [Value.oneCell']) (by unfold maxLen; omega) (by omega) (by omega) ?_)
          intro v6 w6 ho6 hg6 _ hb6
          have HT6 := Lib.hid (HA.out v6 w6 ho6 hg6 hb6)
          clear ho6 hg6 hb6 hbk
          go_wp2_with fail
          go_roundw
          case rel => exact ⟨k + 1, m + 1, _, _, _, by omega, by omega, by go_num, HT6.out⟩
          case measure => simp [intOf]; omega
    · obtain rfl : k = N := by omega
      have hT := HT.out
      have hst := hT.st
      rw [List.take_of_length_le (by rw [HN.out]; exact Nat.le_refl _)] at hst
      have HST9 := Lib.hid hst
      clear hT hst
      go_wp2_with fail
      go_ret
      rw [HST9.out]
      exact ⟨o1, _, rfl, by rw [HT.out.len]; exact HT.out.row, HT.out.fa, HT.out.mv, HT.out.ap⟩
end Go.Proofs.YtkmhdaalabhcbaaDoor

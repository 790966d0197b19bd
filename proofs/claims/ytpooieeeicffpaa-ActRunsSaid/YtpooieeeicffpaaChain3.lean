/-
  One step of the act that runs others.
-/
import Derived.Test.YtpooieeeicffpaaChain2
set_option linter.unusedVariables false
set_option linter.unusedSimpArgs false
namespace Go.Proofs.Ytpooieeeicffpaa
open Go Go.RowKit

/-- How many steps the first i acts have. -/
def RP.pre (p : RP) : Nat → Nat
  | 0 => 0
  | i + 1 => p.pre i + p.n i
theorem RP.pre_zero (p : RP) {a b : Nat} (hab : a ≤ b) (h : ∀ j, a ≤ j → j < b → p.n j = 0) : p.pre b = p.pre a := by
  induction b with
  | zero => obtain rfl : a = 0 := by omega
            rfl
  | succ b ih =>
    by_cases e : a = b + 1
    · rw [e]
    · show p.pre b + p.n b = _
      rw [ih (by omega) (fun j h1 h2 => h j h1 (by omega)), h b (by omega) (by omega)]; rfl
theorem RP.pre_mono (p : RP) {a b : Nat} (hab : a ≤ b) : p.pre a ≤ p.pre b := by
  induction b with
  | zero => obtain rfl : a = 0 := by omega
            exact Nat.le_refl _
  | succ b ih =>
    by_cases e : a = b + 1
    · rw [e]; exact Nat.le_refl _
    · have := ih (by omega)
      show _ ≤ p.pre b + p.n b
      omega

/-- What stands between two steps of the act at A. -/
structure RS (p : RP) (A : Nat) (W : World) (v : Value) (i d : Nat) (log : List Nat) (lv : Value) : Prop where
  env : Env p W
  cb : Boxed W p.Cb 3 (.int .i64 i)
  st : (i = p.N ∧ d = 0 ∧ v = .nilFunc) ∨ (i < p.N ∧ d < p.n i ∧ ∃ Kb Ks Ka Kt Ib S Bx, v = fv 49 (capR Kb Ks Ka Kt) ∧ ChSt p W i d Kb Ks Ka Kt Ib S Bx ∧ A ≠ S ∧
    (∀ g, lv.ownBlock = some g → g ≠ Ib ∧ g ≠ Bx ∧ g ≠ Bx + 1 ∧ g ≠ Bx + 2) ∧ p.Hb < Kb ∧ p.Hb < Ks ∧ p.Hb < Ka ∧ p.Hb < Kt ∧ p.Hb < Ib ∧ p.Hb < S ∧ p.Hb < Bx ∧ Ib ≠ Bx ∧ Ib ≠ Bx + 1 ∧ Ib ≠ Bx + 2)
  lb : Boxed W p.Lb 23 lv
  lr : W.ownsRow 0 3 1 lv log.length (namesV log)
  lo : ∀ g, lv.ownBlock = some g → p.Hb < g
  len : log.length = p.pre i + d
  so : log.Pairwise (· ≤ ·) ∧ ∀ x ∈ log, x ≤ i

def lp1 (p : RP) (i S : Nat) : LP := { N := 1, n := fun _ => p.n i, pb := fun _ => S, sl := fun _ => 0, nm := fun _ => i, Lb := p.Lb, K := 1 }
theorem lp1_fit (p : RP) (hp : ∀ i, p.n i ≤ 100) (i S : Nat) : (lp1 p i S).Fit where
  n100 := fun _ => hp i
  inj := fun a b ha hb hne => by
    have h1 : a < 1 := ha
    have h2 : b < 1 := hb
    omega
  slK := fun _ _ => Nat.zero_lt_one
def ls1 (d : Nat) (log : List Nat) : LS := ⟨fun _ => d, fun _ => log, log.length⟩
theorem LM.noType {p : LP} {s : LS} {F : Nat → Prop} {A : World} {vs : Nat → Value} {bx : Nat → Nat} {cur : Array Value} (h : LM p s F A vs bx cur) {k : Nat} {t : TypeId} {c : Array Value} {fz : Nat × Nat} (hc : A.heap[k]? = some (.cells c t fz))
    (h1 : (23 : Nat) ≠ t) (h2 : (97 : Nat) ≠ t) (h3 : (3 : Nat) ≠ t) (h4 : (28 : Nat) ≠ t) : ¬ F k := by
  intro hk
  rcases (h.foot k).1 hk with rfl | ⟨i, hi, rfl⟩ | ⟨j, hj, hj2⟩ | ⟨i, hi, hd, hk⟩
  · exact block_ne h.log hc h1 rfl
  · obtain ⟨nx, hx⟩ := h.act hi
    exact block_ne hx hc h2 rfl
  · obtain ⟨c2, hc2⟩ := own_cells (h.row j hj) hj2
    exact block_ne hc2 hc h3 rfl
  · have hcl := (h.go i hi hd).2
    rcases hk with rfl | rfl | rfl
    · exact block_ne hcl.b0 hc h3 rfl
    · exact block_ne hcl.b1 hc h3 rfl
    · exact block_ne hcl.b2 hc h4 rfl

theorem own_one {W : World} {v : Value} {log : List Nat} (h : W.ownsRow 0 3 1 v log.length (namesV log)) : True := trivial
/-- The act that is run is a machine. -/
theorem lm_of (p : RP) {W : World} {i d Kb Ks Ka Kt Ib S Bx : Nat} {log : List Nat} {lv : Value} (hst : ChSt p W i d Kb Ks Ka Kt Ib S Bx) (hd : d < p.n i) (hlb : Boxed W p.Lb 23 lv) (hlr : W.ownsRow 0 3 1 lv log.length (namesV log))
    (hne : ∀ g, lv.ownBlock = some g → g ≠ Bx ∧ g ≠ Bx + 1 ∧ g ≠ Bx + 2) :
    LM (lp1 p i S) (ls1 d log) (footOf (lp1 p i S) (ls1 d log) (fun _ => lv) (fun _ => Bx)) W (fun _ => lv) (fun _ => Bx) #[lv] := by
  constructor
  case foot => exact fun k => Iff.rfl
  case log => exact hlb
  case size => rfl
  case slot => intro j hj; have : j < 1 := hj; obtain rfl : j = 0 := (by omega); rfl
  case row => exact fun j hj => hlr
  case len => exact fun j hj => Nat.le_refl _
  case le => exact fun j hj => Nat.le_of_lt hd
  case go => exact fun j hj hdj => ⟨hst.sa, hst.sc⟩
  case fin => intro j hj hdj; have : d = p.n i := hdj; omega
  case apart => intro j j' hj hj' hne'; have h1 : j < 1 := hj; have h2 : j' < 1 := hj'; omega
  case box => exact fun j j' hj hj' hdj k hk => hne k hk

/-- What a step comes to. -/
def R1 (p : RP) (A : Nat) (W : World) (i d : Nat) (log : List Nat) (e : Ending) (w' : World) : Prop :=
  ∃ v i' d' lv, e = .returned v ∧ RS p A w' v i' d' (log ++ [i]) lv ∧ p.pre i' + d' = p.pre i + d + 1 ∧ w'.heap[A]? = W.heap[A]? ∧ Below p.Nb W w' ∧ StepV v

set_option maxRecDepth 20000 in
set_option maxHeartbeats 2000000 in
theorem run1_c (p : RP) (hp : ∀ i, p.n i ≤ 100) (hN : p.N ≤ 100) (A : Nat) (W : World) (nxA : Value) (cA : Nat) (hA : ActAt W A nxA cA) (i d Kb Ks Ka Kt Ib S Bx : Nat) (log : List Nat) (lv : Value) (hi : i < p.N) (hd : d < p.n i)
    (env : Env p W) (cb : Boxed W p.Cb 3 (.int .i64 i)) (hst : ChSt p W i d Kb Ks Ka Kt Ib S Bx) (hAS : A ≠ S)
    (hg : ∀ g, lv.ownBlock = some g → g ≠ Ib ∧ g ≠ Bx ∧ g ≠ Bx + 1 ∧ g ≠ Bx + 2) (hb : p.Hb < Kb ∧ p.Hb < Ks ∧ p.Hb < Ka ∧ p.Hb < Kt ∧ p.Hb < Ib ∧ p.Hb < S ∧ p.Hb < Bx ∧ Ib ≠ Bx ∧ Ib ≠ Bx + 1 ∧ Ib ≠ Bx + 2)
    (lb : Boxed W p.Lb 23 lv) (lr : W.ownsRow 0 3 1 lv log.length (namesV log)) (lo : ∀ g, lv.ownBlock = some g → p.Hb < g) (hlen : log.length = p.pre i + d) (hlog : log.length < 100000)
    (so : log.Pairwise (· ≤ ·) ∧ ∀ x ∈ log, x ≤ i) :
    Calls Try.prog 49 (capR Kb Ks Ka Kt) W fun e w' => R1 p A W i d log e w' := by
  have hlm := lm_of p hst hd lb lr (fun g h => (hg g h).2)
  have CS := hlm.step (lp1_fit p hp i S) (i := 0) Nat.zero_lt_one hd (by show log.length < 1000000; omega)
  -- what the act doesn't have
  obtain ⟨F, hF⟩ : ∃ F, footOf (lp1 p i S) (ls1 d log) (fun _ => lv) (fun _ => Bx) = F := ⟨_, rfl⟩
  rw [hF] at CS hlm
  have hlow : ∀ k, k ≤ p.Hb → k ≠ p.Lb → ¬ F k := by
    intro k hk hkL hf
    rcases (hlm.foot k).1 hf with h | ⟨j, hj, h⟩ | ⟨j, hj, hj2⟩ | ⟨j, hj, hdj, hj2⟩
    · exact hkL h
    · have h2 : k = S := h
      omega
    · have := lo k hj2; omega
    · have : p.Hb < Bx := by omega
      omega
  have nI : ¬ F Ib := by
    intro hf
    rcases (hlm.foot Ib).1 hf with h | ⟨j, hj, h⟩ | ⟨j, hj, hj2⟩ | ⟨j, hj, hdj, hj2⟩
    · have h2 : Ib = p.Lb := h
      have := env.lo; omega
    · have h2 : Ib = S := h
      exact block_ne hst.bi hst.sa (by decide) h2
    · exact (hg Ib hj2).1 rfl
    · omega
  have nA : ¬ F A := by
    intro hf
    rcases (hlm.foot A).1 hf with h | ⟨j, hj, h⟩ | ⟨j, hj, hj2⟩ | ⟨j, hj, hdj, hj2⟩
    · exact block_ne hA lb (by decide) h
    · exact hAS h
    · obtain ⟨c, hc⟩ := own_cells lr hj2
      exact block_ne hA hc (by decide) rfl
    · have hc := hst.sc
      rcases hj2 with h | h | h
      · exact block_ne hA hc.b0 (by decide) h
      · exact block_ne hA hc.b1 (by decide) h
      · exact block_ne hA hc.b2 (by decide) h
  have nKb := hlm.noType hst.bk (by decide) (by decide) (by decide) (by decide)
  have nKs := hlm.noType hst.bs (by decide) (by decide) (by decide) (by decide)
  have nKa := hlm.noType hst.ba (by decide) (by decide) (by decide) (by decide)
  have nKt := hlm.noType hst.bt (by decide) (by decide) (by decide) (by decide)
  have x0 := hst.bk.cell
  have x1 := hst.bs.cell
  have hAlt := hA.lt
  obtain ⟨l1, l2, l3, l4⟩ := env.lo
  have HCS := Lib.hid CS
  have HST := Lib.hid hst
  have HLM := Lib.hid hlm
  have HENV := Lib.hid env
  have HCB := Lib.hid cb
  have HAA := Lib.hid hA
  have HSO := Lib.hid so
  have HLE := Lib.hid hlen
  have HNF := Lib.hid (And.intro hlow (And.intro nI (And.intro nA (And.intro nKb (And.intro nKs (And.intro nKa nKt))))))
  have HG := Lib.hid hg
  have HLO := Lib.hid l1
  clear CS hst hlm env cb hA so hlen hlow nI nA nKb nKs nKa nKt lb lr lo hg hF l1
  unfold pa at x1 HCS
  unfold capR
  by_cases hfin : p.n i ≤ d + 1
  · rw [show decide ((lp1 p i S).n 0 ≤ (ls1 d log).d 0 + 1) = true from decide_eq_true hfin] at HCS
    go_enter Try.func49, Try.ntmps49
    go_wp2_with fail
    refine HCS.out.mono ?_
    rintro e w3 ⟨rfl, F', ⟨vs', bx', cur', hlm'⟩, hv⟩
    obtain ⟨hlow, nI, nA, nKb, nKs, nKa, nKt⟩ := HNF.out
    have kp : ∀ {k : Nat} {o : Obj}, W.heap[k]? = some o → ¬ F k → w3.heap[k]? = some o := fun h hn => (hv.keep h hn).1
    have env3 : Env p w3 := HENV.out.later fun k hk hn hL => hv.same k (by have := HENV.out.lt; omega) (hlow k hk hL)
    have cb3 : Boxed w3 p.Cb 3 (.int .i64 i) := kp HCB.out (hlow _ (by omega) (by omega))
    have bk3 : Boxed w3 Kb 4 (.bool false) := kp HST.out.bk nKb
    have bt3 : Boxed w3 Kt 41 (fv 23 (p.cap11 Ib)) := kp HST.out.bt nKt
    have bi3 : Boxed w3 Ib 3 (.int .i64 i) := kp HST.out.bi nI
    have aa3 : ActAt w3 A nxA cA := kp HAA.out nA
    obtain ⟨lad, lcp, hlb3⟩ := hlm'.len1 rfl
    have hlb4 : Boxed w3 p.Lb 23 (.slice lad (log ++ [i]).length lcp) := hlb3
    have hlr3 : w3.ownsRow 0 3 1 (.slice lad (log ++ [i]).length lcp) (log ++ [i]).length (namesV (log ++ [i])) := by
      have h1 := hlm'.row 0 Nat.zero_lt_one
      have h2 := hlm'.log.cell (hlm'.slot 0 Nat.zero_lt_one)
      have h3 := hlb4.cell
      have h4 : (lp1 p i S).Lb = p.Lb := rfl
      rw [h4] at h2
      rw [h2] at h3
      rw [Option.some.inj h3] at h1
      exact h1
    have hlo3 : ∀ g, (Value.slice lad (log ++ [i]).length lcp).ownBlock = some g → p.Hb < g := by
      intro g hgk
      have h2 := hlm'.log.cell (hlm'.slot 0 Nat.zero_lt_one)
      have h3 := hlb4.cell
      have h4 : (lp1 p i S).Lb = p.Lb := rfl
      rw [h4] at h2
      rw [h2] at h3
      have hF' : F' g := (hlm'.foot g).2 (.inr (.inr (.inl ⟨0, Nat.zero_lt_one, by rw [Option.some.inj h3]; exact hgk⟩)))
      apply Decidable.byContradiction
      intro hn
      have hgl : g < W.heap.size := by have := HENV.out.lt; omega
      have hFg := hv.old g hgl hF'
      have hgL : g = p.Lb := by
        apply Decidable.byContradiction
        intro hne
        exact hlow g (by omega) hne hFg
      obtain ⟨c, hc⟩ := own_cells hlr3 hgk
      rw [hgL] at hc
      exact block_ne hlb4 hc (by decide) rfl
    have hbN : Below p.Nb W w3 := hv.toBelow (by have := HENV.out.lt; omega) (fun k hk => by
      apply Decidable.byContradiction
      intro hn
      exact hlow k (by omega) (by omega) hk)
    have c0 := bk3.cell
    have c1 := bk3.frozen
    have c2 := bk3.lt
    -- 'called' is set
    have hk4 : ∀ k, k ≠ Kb → (w3.setCell ⟨Kb, 0, none⟩ (.bool true)).heap[k]? = w3.heap[k]? := fun k hk => Below.heap_setCell w3 ⟨Kb, 0, none⟩ _ k hk
    have hne4 : ∀ {B : Nat} {t : TypeId} {c : Array Value} {fz : Nat × Nat}, w3.heap[B]? = some (.cells c t fz) → t ≠ 4 → B ≠ Kb := fun h ht => block_ne h bk3 ht
    have env4 : Env p (w3.setCell ⟨Kb, 0, none⟩ (.bool true)) := env3.later fun k hk _ _ => hk4 k (by omega)
    have cb4 : Boxed (w3.setCell ⟨Kb, 0, none⟩ (.bool true)) p.Cb 3 (.int .i64 i) := (hk4 _ (hne4 cb3 (by decide))).trans cb3
    have bt4 : Boxed (w3.setCell ⟨Kb, 0, none⟩ (.bool true)) Kt 41 (fv 23 (p.cap11 Ib)) := (hk4 _ (hne4 bt3 (by decide))).trans bt3
    have bi4 : Boxed (w3.setCell ⟨Kb, 0, none⟩ (.bool true)) Ib 3 (.int .i64 i) := (hk4 _ (hne4 bi3 (by decide))).trans bi3
    have hlb5 : Boxed (w3.setCell ⟨Kb, 0, none⟩ (.bool true)) p.Lb 23 (.slice lad (log ++ [i]).length lcp) := (hk4 _ (hne4 hlb4 (by decide))).trans hlb4
    have hlr5 := own_same (B := w3.setCell ⟨Kb, 0, none⟩ (.bool true)) hlr3 fun k hk => hk4 k (by
      obtain ⟨c, hc⟩ := own_cells hlr3 hk
      exact hne4 hc (by decide))
    have aa5 : ActAt (w3.setCell ⟨Kb, 0, none⟩ (.bool true)) A nxA cA := (hk4 _ (hne4 aa3 (by decide))).trans aa3
    have hbN5 : Below p.Nb W (w3.setCell ⟨Kb, 0, none⟩ (.bool true)) := hbN.setCell (p := ⟨Kb, 0, none⟩) (by show p.Nb ≤ Kb; omega) _
    have hsz5 : (w3.setCell ⟨Kb, 0, none⟩ (.bool true)).heap.size = w3.heap.size := size_setCell _ _ _
    have CT := then_c p i (by omega) (chain_c p (fun i => by have := hp i; omega) hN (p.N - (i + 1)) (i + 1) (by omega)) Ib _ env4 cb4 bi4 (by omega)
    have y0 := bt4.cell
    unfold fv RP.cap11 at y0
    unfold RP.cap11 at CT
    have HCT := Lib.hid CT
    have HE4 := Lib.hid env4
    have HLB := Lib.hid hlb5
    have HLR := Lib.hid hlr5
    have HA5 := Lib.hid aa5
    have HCB4 := Lib.hid cb4
    have HBN := Lib.hid hbN5
    have HLO3 := Lib.hid hlo3
    clear x0 x1 hv hlm' kp env3 cb3 bk3 bt3 bi3 aa3 hlb3 hlb4 hlr3 hlo3 hbN hk4 hne4 env4 cb4 bt4 bi4 hlb5 hlr5 aa5 hbN5 hsz5 CT HCS HST HLM hlow nI nA nKb nKs nKa nKt
    go_wp2_with fail
    refine HCT.out.mono ?_
    rintro e w6 ⟨v, i', rfl, h1, h2, h3, h4, h5, h6⟩
    go_wp2_with fail
    go_ret
    have hpre : p.pre i' = p.pre (i + 1) := p.pre_zero h1 h3
    have hpre2 : p.pre (i + 1) = p.pre i + p.n i := rfl
    have hL6 : Boxed w6 p.Lb 23 (.slice lad (log ++ [i]).length lcp) := (h5.same _ HLB.out.lt (by omega)).trans HLB.out
    have hR6 := own_same (B := w6) HLR.out fun k hk => h5.same k (HLR.out.lt k hk).2 (by have := HLO3.out k hk; omega)
    have hA6 : w6.heap[A]? = W.heap[A]? := (h5.same _ HA5.out.lt (fun e => block_ne HA5.out (show (w3.setCell ⟨Kb, 0, none⟩ (.bool true)).heap[p.Cb]? = _ from HCB4.out) (by decide) e)).trans (HA5.out.trans HAA.out.symm)
    have hso : (log ++ [i]).Pairwise (· ≤ ·) ∧ ∀ x ∈ log ++ [i], x ≤ i := by
      refine ⟨List.pairwise_append.2 ⟨HSO.out.1, List.pairwise_singleton _ _, fun a ha b hb => by rw [List.mem_singleton] at hb; subst hb; exact HSO.out.2 a ha⟩, fun x hx => ?_⟩
      rcases List.mem_append.1 hx with hx | hx
      · exact HSO.out.2 x hx
      · rw [List.mem_singleton] at hx; omega
    refine ⟨v, i', 0, _, rfl, ⟨HE4.out.only h5, h4, ?_, hL6, hR6, HLO3.out, ?_, hso.1, fun x hx => by have := hso.2 x hx; omega⟩, by omega, hA6, ?_, stepV_of h6⟩
    · rcases h6 with ⟨e1, e2⟩ | ⟨e1, e2, Kb', Ks', Ka', Kt', Ib', S', Bx', e3, e4, e5⟩
      · exact .inl ⟨e1, rfl, e2⟩
      · have hHl := HE4.out.lt
        refine .inr ⟨e1, e2, Kb', Ks', Ka', Kt', Ib', S', Bx', e3, e4, ?_, fun g hgk => ?_, by omega⟩
        · have := HA5.out.lt; omega
        · have := (HLR.out.lt g hgk).2; omega
    · rw [List.length_append, List.length_singleton, HLE.out]; omega
    · refine HBN.out.trans ⟨h5.os, h5.tape, h5.output, h5.size, fun k hk => h5.same k ?_ (by omega)⟩
      have := HE4.out.lt
      omega
  · have hdd : d + 1 < p.n i := by omega
    rw [show decide ((lp1 p i S).n 0 ≤ (ls1 d log).d 0 + 1) = false from decide_eq_false hfin] at HCS
    go_enter Try.func49, Try.ntmps49
    go_wp2_with fail
    refine HCS.out.mono ?_
    rintro e w3 ⟨rfl, F', ⟨vs', bx', cur', hlm'⟩, hv⟩
    obtain ⟨hlow, nI, nA, nKb, nKs, nKa, nKt⟩ := HNF.out
    have kp : ∀ {k : Nat} {o : Obj}, W.heap[k]? = some o → ¬ F k → w3.heap[k]? = some o := fun h hn => (hv.keep h hn).1
    have env3 : Env p w3 := HENV.out.later fun k hk hn hL => hv.same k (by have := HENV.out.lt; omega) (hlow k hk hL)
    have cb3 : Boxed w3 p.Cb 3 (.int .i64 i) := kp HCB.out (hlow _ (by omega) (by omega))
    have nI' : ¬ F' Ib := (hv.keep HST.out.bi nI).2
    obtain ⟨hsa, hsc⟩ := hlm'.go 0 Nat.zero_lt_one hdd
    have hsa3 : ActAt w3 S (fv 61 (cap3 (bx' 0))) (d + 1) := hsa
    have hsc3 : Clo w3 (bx' 0) (p.n i - (d + 1)) i p.Lb 0 := hsc
    have ba3 : Boxed w3 Ka 42 (fv 49 (capR Kb Ks Ka Kt)) := kp HST.out.ba nKa
    have hst3 : ChSt p w3 i (d + 1) Kb Ks Ka Kt Ib S (bx' 0) := ⟨kp HST.out.bk nKb, kp HST.out.bs nKs, ba3, kp HST.out.bt nKt, kp HST.out.bi nI, hsa3, hsc3⟩
    have fbx : F' (bx' 0) ∧ F' (bx' 0 + 1) ∧ F' (bx' 0 + 2) := ⟨(hlm'.foot _).2 (.inr (.inr (.inr ⟨0, Nat.zero_lt_one, hdd, .inl rfl⟩))), (hlm'.foot _).2 (.inr (.inr (.inr ⟨0, Nat.zero_lt_one, hdd, .inr (.inl rfl)⟩))), (hlm'.foot _).2 (.inr (.inr (.inr ⟨0, Nat.zero_lt_one, hdd, .inr (.inr rfl)⟩)))⟩
    obtain ⟨lad, lcp, hlb3⟩ := hlm'.len1 rfl
    have hlb4 : Boxed w3 p.Lb 23 (.slice lad (log ++ [i]).length lcp) := hlb3
    have hvs : vs' 0 = .slice lad (log ++ [i]).length lcp := by
      have h2 := hlm'.log.cell (hlm'.slot 0 Nat.zero_lt_one)
      have h3 := hlb4.cell
      have h4 : (lp1 p i S).Lb = p.Lb := rfl
      rw [h4, h3] at h2
      exact (Option.some.inj h2).symm
    have hlr3 : w3.ownsRow 0 3 1 (.slice lad (log ++ [i]).length lcp) (log ++ [i]).length (namesV (log ++ [i])) := by
      have h1 := hlm'.row 0 Nat.zero_lt_one
      rw [hvs] at h1
      exact h1
    have hFg : ∀ g, (Value.slice lad (log ++ [i]).length lcp).ownBlock = some g → F' g := fun g hgk => (hlm'.foot g).2 (.inr (.inr (.inl ⟨0, Nat.zero_lt_one, by rw [hvs]; exact hgk⟩)))
    have hlo3 : ∀ g, (Value.slice lad (log ++ [i]).length lcp).ownBlock = some g → p.Hb < g := by
      intro g hgk
      apply Decidable.byContradiction
      intro hn
      have hgl : g < W.heap.size := by have := HENV.out.lt; omega
      have hFg := hv.old g hgl (hFg g hgk)
      have hgL : g = p.Lb := by
        apply Decidable.byContradiction
        intro hne
        exact hlow g (by omega) hne hFg
      obtain ⟨c, hc⟩ := own_cells hlr3 hgk
      rw [hgL] at hc
      exact block_ne hlb4 hc (by decide) rfl
    have hHB : p.Hb < bx' 0 := by
      apply Decidable.byContradiction
      intro hn
      have hgl : bx' 0 < W.heap.size := by have := HENV.out.lt; omega
      have hF1 := hv.old _ hgl fbx.1
      have hgL : bx' 0 = p.Lb := by
        apply Decidable.byContradiction
        intro hne
        exact hlow _ (by omega) hne hF1
      exact block_ne hlb4 hsc3.b0 (by decide) hgL.symm
    have hbN : Below p.Nb W w3 := hv.toBelow (by have := HENV.out.lt; omega) (fun k hk => by
      apply Decidable.byContradiction
      intro hn
      exact hlow k (by omega) (by omega) hk)
    have hA3 : w3.heap[A]? = W.heap[A]? := (hv.keep HAA.out nA).1.trans HAA.out.symm
    have hso : (log ++ [i]).Pairwise (· ≤ ·) ∧ ∀ x ∈ log ++ [i], x ≤ i := by
      refine ⟨List.pairwise_append.2 ⟨HSO.out.1, List.pairwise_singleton _ _, fun a ha b hb => by rw [List.mem_singleton] at hb; subst hb; exact HSO.out.2 a ha⟩, fun x hx => ?_⟩
      rcases List.mem_append.1 hx with hx | hx
      · exact HSO.out.2 x hx
      · rw [List.mem_singleton] at hx; omega
    have hne : ∀ g, (Value.slice lad (log ++ [i]).length lcp).ownBlock = some g → g ≠ Ib ∧ g ≠ bx' 0 ∧ g ≠ bx' 0 + 1 ∧ g ≠ bx' 0 + 2 := fun g hgk => ⟨fun e => nI' (by rw [← e]; exact hFg g hgk), hlm'.box 0 0 Nat.zero_lt_one Nat.zero_lt_one hdd g (by rw [hvs]; exact hgk)⟩
    have hR : Hid (RS p A w3 (fv 49 (capR Kb Ks Ka Kt)) i (d + 1) (log ++ [i]) (.slice lad (log ++ [i]).length lcp)) :=
      ⟨env3, cb3, .inr ⟨hi, hdd, Kb, Ks, Ka, Kt, Ib, S, bx' 0, rfl, hst3, hAS, hne, by
        have e1 : Ib ≠ bx' 0 := fun e => nI' (by rw [e]; exact fbx.1)
        have e2 : Ib ≠ bx' 0 + 1 := fun e => nI' (by rw [e]; exact fbx.2.1)
        have e3 : Ib ≠ bx' 0 + 2 := fun e => nI' (by rw [e]; exact fbx.2.2)
        exact ⟨hb.1, hb.2.1, hb.2.2.1, hb.2.2.2.1, hb.2.2.2.2.1, hb.2.2.2.2.2.1, hHB, e1, e2, e3⟩⟩, hlb4, hlr3, hlo3, by rw [List.length_append, List.length_singleton, HLE.out]; omega, hso⟩
    have HBN := Lib.hid hbN
    have HA3 := Lib.hid hA3
    have y0 := ba3.cell
    unfold fv capR at y0
    clear x0 x1 hv hlm' kp env3 cb3 hst3 fbx hlb3 hlb4 hlr3 hlo3 hbN hvs hFg hHB hA3 hso hne hsa hsc hsa3 hsc3 ba3 nI' HCS HST HLM hlow nI nA nKb nKs nKa nKt
    go_wp2_with fail
    go_ret
    exact ⟨_, i, d + 1, _, rfl, hR.out, by omega, HA3.out, HBN.out, .inr ⟨_, _, rfl⟩⟩
end Go.Proofs.Ytpooieeeicffpaa

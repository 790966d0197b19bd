/-
  The walk through the acts that are not over.
-/
import Derived.Test.YtefmojohabdjcaaTurnC
import Derived.LoopIn
import Derived.LoopNIn
import Derived.TacticsInMore
import Derived.OwnWalkIn
set_option linter.unusedVariables false
set_option linter.unusedSimpArgs false
namespace Go.Proofs.Ytefmojohabdjcaa
open Go Go.RowKit
@[local go_sem] theorem wide_fnG (f : Nat) : Fence.wide.fn f = True := rfl
@[local go_sem] theorem wide_depthG : Fence.wide.depth = none := rfl
attribute [local go_sem] Oper.semAt_some

theorem CallsIn.wG {n : Nat} {P : Program} {f : FuncId} {args : Array Value} {w : World} {R R' : Ending → World → Prop} (h : Calls P f args w R) (hr : ∀ e w', R e w' → R' e w') : CallsIn Fence.wide n P f args w R' :=
  (callsIn_wide.2 h).mono hr
theorem CallsIn.wrG {l n : Nat} {P : Program} {f : FuncId} {args : Array Value} {w : World} {R R' : Ending → World → Prop} (h : Calls P f args w R) (hr : ∀ e w', R e w' → R' e w') : CallsIn (Fence.wide.inRound l) n P f args w R' :=
  (CallsIn.inRound l (callsIn_wide.2 h)).mono hr

variable {σ : Type} {m : Mach σ}
/-- What the walk has captured. -/
structure CapsA (m : Mach σ) (Bq : Nat) (u : Value) (W : World) : Prop where
  box : Boxed W Bq 63 u
  row : W.ownsRow 0 56 1 u m.N (ptrs m)
def capA (Bq : Nat) (u : Value) (k : Nat) : Prop := k = Bq ∨ u.ownBlock = some k
theorem CapsA.keeps {Bq D : Nat} {u : Value} {T : TypeId → Prop} {W W' : World} (h : CapsA m Bq u W) (hk : Keeps T (capA Bq u) D W W') : CapsA m Bq u W' := by
  refine ⟨hk.boxed h.box (.inl (.inl rfl)), h.row.1, ?_⟩
  rcases h.row.2 with hn | ⟨g, cap, cur, rfl, hg, hgg, rest⟩
  · exact .inl hn
  · exact .inr ⟨g, cap, cur, rfl, hg, hk.same g _ hgg (.inl (.inr rfl)), rest⟩
theorem CapsA.heap {Bq : Nat} {u : Value} {W W' : World} (h : CapsA m Bq u W) (hs : ∀ k, capA Bq u k → W'.heap[k]? = W.heap[k]?) : CapsA m Bq u W' := by
  refine ⟨(hs _ (.inl rfl)).trans h.box, h.row.1, ?_⟩
  rcases h.row.2 with hn | ⟨g, cap, cur, rfl, hg, hgg, rest⟩
  · exact .inl hn
  · exact .inr ⟨g, cap, cur, rfl, hg, (hs g (.inr rfl)).trans hgg, rest⟩
theorem CapsA.lt {Bq : Nat} {u : Value} {W : World} (h : CapsA m Bq u W) {k : Nat} (hk : capA Bq u k) : k < W.heap.size := by
  rcases hk with rfl | hk
  · exact lt_of_block h.box
  · exact (h.row.lt k hk).2

/-- Is the act of that number over? -/
def isOver (m : Mach σ) (i : Nat) (b : Bool) (W : World) : Prop := Calls Try.prog 24 #[m.p i] W fun e w' => e = .returned (.bool b) ∧ w' = W

set_option maxRecDepth 100000 in
set_option maxHeartbeats 2000000 in
theorem going1_walk (hN : m.N ≤ 1000) (Bq : Nat) (u : Value) :
    Walk Try.prog 53 #[.pointer (some ⟨Bq, 0, none⟩)] m.N (fun i : Nat => #[.int .i64 i, m.p i]) (fun _ => False) (capA Bq u) (CapsA m Bq u) (isOver m) := by
  rintro l T J Jb Jx W hcap hT hJ hJb hJx hdec hY h0
  refine (callsIn_wide (n := 3)).1 ?_
  refine callsIn_of_wp Try.func53 rfl trivial ?_
  simp only [Try.ntmps53, List.size_toArray, List.length_cons, List.length_nil, Nat.reduceAdd, Nat.reduceSub, Array.replicate_succ, Array.replicate_zero, List.push_toArray, List.append_toArray, List.nil_append, List.cons_append]
  have HD := Lib.hid hdec
  have HY := Lib.hid hY
  have HC := Lib.hid hcap
  have cb := hcap.box.cell
  clear hdec hY hcap hJ hJb hJx hT
  obtain ⟨N, hNN⟩ : ∃ N, N = m.N := ⟨_, rfl⟩
  obtain ⟨ad, cp, hu⟩ := own_form HC.out.row
  rw [← hNN] at hN hu HD HY ⊢
  subst hu
  have HN := Lib.hid hNN
  clear hNN
  refine wpIn_wide.2 ?_
  go_wp2_with fail
  go_step3
  go_wp2_with fail
  go_step3
  go_wp2_with fail
  refine (wpIn_wide (n := 3)).1 ?_
  gi_wp2
  clear cb
  gi_loopw [7] (fun i wr => ∃ k : Nat, k ≤ N ∧ i = .int .i64 k ∧ Hid (J k wr) ∧ Hid (CapsA m Bq (.slice ad N cp) wr)) (fun i _ => N - (intOf i).toNat)
  case atStart => exact ⟨0, by omega, rfl, h0, HC.out⟩
  case round =>
    obtain ⟨k, hk, rfl, HJk, HCk⟩ := hrel
    clear h0
    by_cases hlt : k < N
    · have hq1 : (k : Int) < N := by omega
      have hlr := HCk.out.row
      rw [← HN.out] at hlr
      obtain ⟨b2, o2, rfl, hbl2, hc2⟩ := (RowAt.of_own hlr (by rw [ptrs_len, HN.out])).at (ptrs_at m (i := k) (by rw [← HN.out]; exact hlt))
      clear hlr
      rcases HD.out k wr hlt HJk.out with ⟨hov, hj1⟩ | ⟨hov, hjb⟩
      · have C := Lib.hid hov
        have HJ1 := Lib.hid hj1
        unfold isOver at C
        generalize m.p k = pk at hc2 C
        clear hov hj1
        gi_wp2_with fail
        refine CallsIn.wG C.out ?_
        rintro e w' ⟨rfl, rfl⟩
        gi_wp2_with fail
        go_roundw
        case rel => exact ⟨k + 1, by omega, by go_num, HJ1.out, HCk.out⟩
        case measure => simp [intOf]; omega
      · have C := Lib.hid hov
        unfold isOver at C
        obtain ⟨fn, tmps, assign, body, hy, hRd⟩ := HY.out k wr hlt hjb
        have HRd := Lib.hid (RoundIn.any (m := 2) hRd)
        generalize m.p k = pk at hc2 C hy HRd
        clear hov hjb hRd
        gi_wp2_with fail
        refine CallsIn.wG C.out ?_
        rintro e w' ⟨rfl, rfl⟩
        gi_wp2_with fail
        refine HRd.out.mono ?_
        rintro e w2 ⟨hk2, (⟨rfl, hJ2⟩ | ⟨rfl, hx2⟩)⟩
        · have HC2 := Lib.hid (HCk.out.keeps hk2)
          have HJ2 := Lib.hid hJ2
          clear hJ2 hk2 hy HRd
          gi_wp2_with fail
          go_roundw
          case rel => exact ⟨k + 1, by omega, by go_num, HJ2.out, HC2.out⟩
          case measure => simp [intOf]; omega
        · have HX2 := Lib.hid hx2
          clear hx2 hk2 hy HRd
          gi_wp2_with fail
          rw [Exit.noGoto_ret]
          refine bodyPost_ret (results_none rfl _ _ _) rfl ?_
          exact ⟨⟨_, rfl⟩, .inr ⟨k, hlt, HX2.out⟩⟩
    · obtain rfl : k = N := by omega
      gi_wp2_with fail
      rw [Exit.noGoto_normal]
      go_end0
      exact ⟨⟨_, rfl⟩, .inl HJk.out⟩

set_option maxRecDepth 20000 in
/-- The walk itself: its closure, with a copy of the row. -/
theorem going_c (hm : m.Ok) (hN : m.N ≤ 1000) (lv : Value) (w : World) (h1 : RowAt w lv (ptrs m)) :
    Calls Try.prog 42 #[lv] w fun e w' => ∃ Bq u, e = .returned (.func (.func 53) #[] #[.pointer (some ⟨Bq, 0, none⟩)]) ∧ CapsA m Bq u w' ∧ (∀ k, capA Bq u k → w.heap.size ≤ k) ∧ Below w.heap.size w w' := by
  have C1 := Lib.hid (cloneA_c lv (ptrs m) (ptrs_one hm) (by rw [ptrs_len]; exact hN) w h1)
  rw [ptrs_len] at C1
  clear h1
  go_enter Try.func42, Try.ntmps42
  go_wp2_with fail
  refine C1.out.mono ?_
  rintro e w1 ⟨v1, rfl, ho1, hb1⟩
  have HO1 := Lib.hid ho1
  have HB1 := Lib.hid hb1
  obtain ⟨ad, cp, hv⟩ := own_form ho1
  subst hv
  clear C1 ho1 hb1
  go_wp2_with fail
  go_ret
  refine ⟨_, _, rfl, ⟨Boxed.new w1 63 _, own_zero (HO1.out.alloc _)⟩, ?_, HB1.out.alloc HB1.out.size _⟩
  rintro k (rfl | hk)
  · exact HB1.out.size
  · exact (HO1.out.lt k hk).1
end Go.Proofs.Ytefmojohabdjcaa

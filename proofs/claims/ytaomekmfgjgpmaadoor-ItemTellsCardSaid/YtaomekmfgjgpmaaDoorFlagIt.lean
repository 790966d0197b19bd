/-
  The two iterators of package flags: a set's flags with their names; a set's names.
-/
import Derived.Test.YtaomekmfgjgpmaaDoorIter
import Derived.Test.YtaomekmfgjgpmaaDoorLeaf1
import Derived.LoopTactic
import Derived.LoopIn
import Derived.LoopNIn
import Derived.TacticsInMore
import Derived.OwnWalkIn
set_option linter.unusedVariables false
set_option linter.unusedSimpArgs false
namespace Go.Proofs.YtaomekmfgjgpmaaDoor
open Go Go.RowKit
attribute [local go_sem] Oper.semAt_some
@[local go_sem] theorem wide_fn (f : Nat) : Fence.wide.fn f = True := rfl
@[local go_sem] theorem wide_depth : Fence.wide.depth = none := rfl

/-- The table of names, as it lies. -/
def Names (W : World) : Prop := W.cell? ⟨4, 0, none⟩ = some (.string (nmB 0)) ∧ W.cell? ⟨4, 1, none⟩ = some (.string (nmB 1)) ∧ W.cell? ⟨4, 2, none⟩ = some (.string (nmB 2)) ∧
  W.cell? ⟨4, 3, none⟩ = some (.string (nmB 3)) ∧ W.cell? ⟨4, 4, none⟩ = some (.string (nmB 4))

theorem pow_mod {i : Nat} (hi : i < 5) : (2 : Int) ^ i % 256 = ((2 ^ i : Nat) : Int) := by
  obtain h | h | h | h | h : i = 0 ∨ i = 1 ∨ i = 2 ∨ i = 3 ∨ i = 4 := by omega
  all_goals subst h; rfl
theorem CallsIn.w {n : Nat} {P : Program} {f : FuncId} {args : Array Value} {w : World} {R R' : Ending → World → Prop} (h : Calls P f args w R) (hr : ∀ e w', R e w' → R' e w') : CallsIn Fence.wide n P f args w R' :=
  (callsIn_wide.2 h).mono hr

theorem CallsIn.wr {l n : Nat} {P : Program} {f : FuncId} {args : Array Value} {w : World} {R R' : Ending → World → Prop} (h : Calls P f args w R) (hr : ∀ e w', R e w' → R' e w') : CallsIn (Fence.wide.inRound l) n P f args w R' :=
  (CallsIn.inRound l (callsIn_wide.2 h)).mono hr

set_option maxRecDepth 100000 in
set_option maxHeartbeats 1000000 in
theorem flags1_iter (s Bs : Nat) (hs : s < 256) : Iter Tryd.prog 53 #[.pointer (some ⟨Bs, 0, none⟩)] (fun i : Nat => #[.int .u8 ((2 : Int) ^ i % 256), .string (nmB i)])
    (fun _ => False) (fun k => k = Bs) (fun W => Names W ∧ Boxed W Bs 31 (.int .u8 s)) (fun pre x => pre ++ [x] <+: seqOf s 5) (fun xs => xs = seqOf s 5) (fun pre => pre <+: seqOf s 5) := by
  rintro l T J Jx W ⟨⟨c0, c1, c2, c3, c4⟩, hb⟩ hT hJ hJx hY h0
  refine (callsIn_wide (n := 3)).1 ?_
  refine callsIn_of_wp Tryd.func53 rfl trivial ?_
  simp only [Tryd.ntmps53, List.size_toArray, List.length_cons, List.length_nil, Nat.reduceAdd, Nat.reduceSub, Array.replicate_succ, Array.replicate_zero, List.push_toArray, List.append_toArray, List.nil_append, List.cons_append]
  have HJ := Lib.hid hJ
  have HX := Lib.hid hJx
  have HY := Lib.hid hY
  have HS := Lib.hid hs
  clear hJ hJx hY hT hs
  gi_wp2
  clear c0 c1 c2 c3 c4
  gi_loopw [7] (fun i wr => ∃ k : Nat, k ≤ 5 ∧ i = .int .i64 k ∧ J (seqOf s k) wr ∧ Boxed wr Bs 31 (.int .u8 s)) (fun i _ => 5 - (intOf i).toNat)
  case atStart => exact ⟨0, by omega, rfl, h0, hb⟩
  case round =>
    obtain ⟨k, hk, rfl, hJk, hbk⟩ := hrel
    clear hb h0
    have cb := hbk.cell
    have HB := Lib.hid hbk
    have HK := Lib.hid hJk
    clear hbk hJk
    by_cases hlt : k < 5
    · have hidx : ∀ w, (Instr.index 88 (.agg #[.string (nmB 0), .string (nmB 1), .string (nmB 2), .string (nmB 3), .string (nmB 4)]) (.int .i64 (k : Int))).run Tryd.prog w = .ok (.string (nmB k)) w := by
        obtain h | h | h | h | h : k = 0 ∨ k = 1 ∨ k = 2 ∨ k = 3 ∨ k = 4 := by omega
        all_goals subst h; exact fun w => by kernel_rfl
      by_cases hbit : bit s k = true
      · have HB2 := Lib.hid hbit
        clear hbit
        have hc : ∀ w, Calls Tryd.prog 54 #[.int .u8 s, .int .u8 ((2 : Int) ^ k % 256)] w fun e w' => e = .returned (.bool true) ∧ w = w' := fun w => by
          have := has_bit_c s k HS.out hlt _ (pow_mod hlt) w
          rwa [HB2.out] at this
        have HC := Lib.hid hc
        clear hc
        obtain ⟨fn, tmps, assign, body, hy, hR⟩ := HY.out _ k wr HK.out (seqOf_step hlt HB2.out)
        have HR := Lib.hid (RoundIn.any (m := 2) hR)
        clear hR
        gi_wp2_with (gi_at_call 54; refine CallsIn.w (HC.out _) ?_; rintro e w' ⟨rfl, rfl⟩)
        refine HR.out.mono ?_
        rintro e w2 ⟨hk2, (⟨rfl, hJ2⟩ | ⟨rfl, hx2⟩)⟩
        · have HB3 := Lib.hid (hk2.boxed HB.out (.inl rfl))
          have HJ2 := Lib.hid hJ2
          clear hJ2 hk2
          gi_wp2_with fail
          go_roundw
          case rel => exact ⟨k + 1, by omega, by go_num, by rw [seqOf_succ, if_pos HB2.out]; exact HJ2.out, HB3.out⟩
          case measure => simp [intOf]; omega
        · have HX2 := Lib.hid hx2
          clear hx2 hk2
          gi_wp2_with fail
          refine bodyPost_ret (results_none rfl _ _ _) rfl ?_
          exact ⟨⟨_, rfl⟩, .inr ⟨_, seqOf_step hlt HB2.out, HX2.out⟩⟩
      · have HB2 := Lib.hid (by simpa using hbit : bit s k = false)
        clear hbit
        have hc : ∀ w, Calls Tryd.prog 54 #[.int .u8 s, .int .u8 ((2 : Int) ^ k % 256)] w fun e w' => e = .returned (.bool false) ∧ w = w' := fun w => by
          have := has_bit_c s k HS.out hlt _ (pow_mod hlt) w
          rwa [HB2.out] at this
        have HC := Lib.hid hc
        clear hc
        gi_wp2_with (gi_at_call 54; refine CallsIn.w (HC.out _) ?_; rintro e w' ⟨rfl, rfl⟩)
        go_roundw
        case rel => exact ⟨k + 1, by omega, by go_num, by rw [seqOf_succ, HB2.out]; exact HK.out, HB.out⟩
        case measure => simp [intOf]; omega
    · obtain rfl : k = 5 := by omega
      gi_wp2_with fail
      go_end0
      exact ⟨⟨_, rfl⟩, .inl ⟨_, rfl, HK.out⟩⟩
end Go.Proofs.YtaomekmfgjgpmaaDoor

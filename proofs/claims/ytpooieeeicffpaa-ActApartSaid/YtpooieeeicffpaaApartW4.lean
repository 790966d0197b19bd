/-
  The law ActApart: its walk.
-/
import Derived.Test.YtpooieeeicffpaaApartP
import Derived.BigQuiet
import Derived.OwnWalk
set_option linter.unusedVariables false
set_option linter.unusedSimpArgs false
namespace Go.Proofs.Ytpooieeeicffpaa
open Go Go.RowKit
attribute [local go_sem ↓] Go.wp_at_zero Go.wp_at_succ

theorem infoIS : (Try.prog.info? 23).map (fun i => (i.zero, i.size, i.bytes)) = some (some (.slice none 0 0), 1, 24) := by kernel_rfl
def logCells (N : Nat) : Array Value := madeCells #[.slice none 0 0] N
theorem logCells_size (N : Nat) : (logCells N).size = N := size_madeCells _ _
theorem logCells_at (N j : Nat) (h : j < N) : (logCells N)[j]? = some (.slice none 0 0) := by
  have h1 := toList_madeCells_one (.slice none 0 0) N
  have h2 : (logCells N)[j]? = (List.replicate N (Value.slice none 0 0))[j]? := by rw [← h1]; simp [logCells]
  rw [h2, List.getElem?_replicate, if_pos h]
theorem run_logs (N : Nat) (hN : N ≤ 1000) (w : World) : (Instr.makeSlice 46 (.int .i64 N) (.int .i64 N)).run Try.prog w = .ok (.slice (some ⟨w.heap.size, 0, none⟩) N N) (w.alloc (.cells (logCells N) 23)) := by
  obtain ⟨i0, hi0, hz0, hz1, hz2⟩ := info_parts infoIS
  have h := run_make (P := Try.prog) w 46 23 i0 _ Try.underlying46 hi0 hz0 .i64 .i64 (N : Int) (N : Int) (by omega) (Int.le_refl _) (by rw [hz2]; omega) (by omega)
  rw [hz1, Nat.mul_one, Int.toNat_natCast] at h
  exact h

set_option maxHeartbeats 1000000 in
set_option maxRecDepth 20000 in
theorem apart_easy (la pa' qa : Option Addr) (N lc Np pc Nq qc : Nat) (h : 10 < N ∨ 200 < Np ∨ 200 < Nq) (w : World) :
    Calls Try.prog 5 #[.slice la N lc, .slice pa' Np pc, .slice qa Nq qc] w fun e w' => e = .returned (.bool true) ∧ Below w.heap.size w w' := by
  by_cases h1 : 10 < N
  · have q1 : (10 : Int) < N := by omega
    go_enter Try.func5, Try.ntmps5
    go_wp2_with fail
    go_ret
    exact ⟨rfl, Below.refl _ _⟩
  · have q1 : ¬ (10 : Int) < N := by omega
    by_cases h2 : 200 < Np
    · have q2 : (200 : Int) < Np := by omega
      go_enter Try.func5, Try.ntmps5
      go_wp2_with fail
      go_ret
      exact ⟨rfl, Below.refl _ _⟩
    · have q2 : ¬ (200 : Int) < Np := by omega
      have q3 : (200 : Int) < Nq := by omega
      go_enter Try.func5, Try.ntmps5
      go_wp2_with fail
      go_ret
      exact ⟨rfl, Below.refl _ _⟩

set_option maxRecDepth 100000 in
set_option maxHeartbeats 1000000 in
theorem apart_yes (l : List Nat) (hl : l.length ≤ 10) (hb8 : ∀ x ∈ l, x < 256) (ps qs : List Int) (hp : ps.length ≤ 200) (hq : qs.length ≤ 200) (lv pv qv : Value) (w : World)
    (hlv : RowAt w lv (l.map fun n : Nat => Value.int .u8 n)) (hpv : RowAt w pv (intsV ps)) (hqv : RowAt w qv (intsV qs)) :
    Calls Try.prog 5 #[lv, pv, qv] w fun e w' => e = .returned (.bool true) ∧ Below w.heap.size w w' := by
  obtain ⟨i1, hi1, hy0, hy1, hy2⟩ := info_parts infoPA
  obtain ⟨la, lc, hlvf⟩ := hlv.form
  obtain ⟨pa', pc, hpvf⟩ := hpv.form
  obtain ⟨qa, qc, hqvf⟩ := hqv.form
  rw [show (l.map fun n : Nat => Value.int .u8 n).length = l.length by simp] at hlvf
  rw [intsV_len] at hpvf hqvf
  have CL := Lib.hid (lengths_c l (by omega) hb8 lv w hlv)
  have hPV := Lib.hid (fun W' (hb : Below w.heap.size w W') => hpv.below hb)
  have hQV := Lib.hid (fun W' (hb : Below w.heap.size w W') => hqv.below hb)
  obtain ⟨n, hnn⟩ : ∃ n : Nat → Nat, (fun i => l.getD i 0 % 20) = n := ⟨_, rfl⟩
  have hn20 : ∀ i, n i < 20 := fun i => by rw [← hnn]; exact Nat.mod_lt _ (by omega)
  have HN20 := Lib.hid hn20
  have hrow : namesV (l.map (· % 20)) = rowD l.length n := by
    unfold namesV rowD
    apply List.ext_getElem?
    intro i
    by_cases hi : i < l.length
    · simp [hi, ← hnn]
    · simp [hi]
  rw [hrow] at CL
  obtain ⟨N, hN⟩ : ∃ N, N = l.length := ⟨_, rfl⟩
  obtain ⟨Np, hNp⟩ : ∃ Np, Np = ps.length := ⟨_, rfl⟩
  obtain ⟨Nq, hNq⟩ : ∃ Nq, Nq = qs.length := ⟨_, rfl⟩
  rw [← hN] at hl hlvf CL
  rw [← hNp] at hp hpvf
  rw [← hNq] at hq hqvf
  have HNp := Lib.hid hNp
  have HNq := Lib.hid hNq
  subst hlvf
  subst hpvf
  subst hqvf
  have q1 : ¬ (10 : Int) < N := by omega
  have q2 : ¬ (200 : Int) < Np := by omega
  have q3 : ¬ (200 : Int) < Nq := by omega
  have hmk := run_logs N (by omega)
  clear hlv hpv hqv hrow hnn hn20 hb8 hN hNp hNq
  go_enter Try.func5, Try.ntmps5
  go_wp2_with fail
  refine CL.out.mono ?_
  rintro e w1 ⟨nv, rfl, ho1, hb1⟩
  have HN1 : Hid (w1.ownsRow 0 3 1 nv N (rowD N n)) := own_zero ho1
  have HB1 := Lib.hid hb1
  obtain ⟨na, nc, hnv⟩ := own_form ho1
  subst hnv
  clear CL ho1 hb1
  go_wp2_with fail
  go_loopw [8] (fun i wr => ∃ r : Nat, r ≤ 2 ∧ i = .int .i64 r ∧ Hid (Below w.heap.size w wr) ∧ Hid (wr.ownsRow 0 3 1 (.slice na N nc) N (rowD N n))) (fun i _ => 2 - (intOf i).toNat)
  case atStart => exact ⟨0, by omega, rfl, HB1, HN1⟩
  case round =>
    obtain ⟨r, hr, rfl, HBr, HNr⟩ := hrel
    clear HB1 HN1
    by_cases hlt : r < 2
    · have hr01 : r = 0 ∨ r = 1 := by omega
      have hr2 : (r : Int) < 2 := by omega
      rcases hr01 with hr01 | hr01
      · have hr3 : ((r : Int) == 1) = false := by rw [beq_eq_false_iff_ne]; omega
        have HR01 := Lib.hid hr01
        clear hr01
        go_wp2_with fail
        clear hr3
        have hcl : Cells (wr.alloc (.cells (logCells N) 23)) wr.heap.size 23 (logCells N) := heap_alloc_new _ _
        have hbW : Below wr.heap.size wr (wr.alloc (.cells (logCells N) 23)) := (Below.refl _ _).alloc (Nat.le_refl _) _
        have hszW : (wr.alloc (.cells (logCells N) 23)).heap.size = wr.heap.size + 1 := by simp
        obtain ⟨D, hD⟩ : ∃ D, wr.heap.size = D := ⟨_, rfl⟩
        rw [hD] at hcl hbW hszW ⊢
        obtain ⟨W2, hW2⟩ : ∃ W2, wr.alloc (.cells (logCells N) 23) = W2 := ⟨_, rfl⟩
        rw [hW2] at hcl hbW hszW ⊢
        have HD := Lib.hid hD
        clear hD hW2
        have hst := LM.start (lpk n id id D N 0 (fun _ => 0)) rfl (cur := logCells N) hcl (logCells_size N) (fun j hj => logCells_at N j hj)
        have HBLD : Hid (Bld D n id id D N 0 0 0 (fun _ => 0) (footOf (lpk n id id D N 0 (fun _ => 0)) s0 (fun _ => .slice none 0 0) (fun _ => 0)) (.slice none 0 0) (.slice none 0 0) W2) := by
          refine ⟨⟨_, _, _, hst⟩, fun i j hi => by omega, ?_, World.ownsRow_nil _ _ _ _, World.ownsRow_nil _ _ _ _, fun k hk => by (cases hk), by omega⟩
          rintro k (rfl | ⟨i, hi, _⟩ | ⟨j, hj, hk⟩ | ⟨i, hi, _⟩)
          · exact Nat.le_refl _
          · have : i < 0 := hi; omega
          · cases hk
          · have : i < 0 := hi; omega
        have HBW := Lib.hid hbW
        have HSW := Lib.hid hszW
        clear hst hcl hbW hszW
        go_loopw [11, 12] (fun av i w2 => ∃ (k : Nat) (pb : Nat → Nat) (F : Nat → Prop), k ≤ N ∧ i = .int .i64 k ∧ Hid (Bld D n id id D N k k 0 pb F av (.slice none 0 0) w2) ∧ Hid (Below D W2 w2)) (fun _ i _ => N - (intOf i).toNat)
        case atStart => exact ⟨0, _, _, Nat.zero_le _, rfl, HBLD, Below.refl _ _⟩
        case round =>
          obtain ⟨k, pb, F, hk, rfl, HBk, HBB⟩ := hrel
          clear HBLD
          have PC : Hid (∀ w', Below D W2 w' → w'.ownsRow 0 3 1 (.slice na N nc) N (rowD N n)) := fun w' hb => own_same HNr.out fun j hj => by
            have hj2 := (HNr.out.lt j hj).2
            rw [HD.out] at hj2
            exact (hb.block j hj2).trans (HBW.out.block j hj2)
          obtain ⟨aa, ac, hav⟩ := own_form HBk.out.ar
          subst hav
          by_cases hkN : k < N
          · have hq9 : (k : Int) < N := by omega
            obtain ⟨gn, rfl⟩ : ∃ g, na = some ⟨g, 0, none⟩ := by
              rcases HNr.out.2 with ⟨h, h2⟩ | ⟨g, cap, cur, h, _⟩
              · omega
              · cases h; exact ⟨g, rfl⟩
            have PK : Hid (∀ w', Below D W2 w' → w'.cell? ⟨gn, k, none⟩ = some (.int .i64 (n k))) := fun w' hb => by
              rw [(PC.out w' hb).cellAt k (by omega)]; exact rowD_at _ hkN
            have HNK : Hid (n k ≤ 1000) := by have := HN20.out k; show _ ≤ _; omega
            have CS := Lib.hid (fun W => steps_c (n k) k D k HNK.out W)
            unfold ptrV at CS
            have hD2 := HBk.out.size
            have hD3 := HSW.out
            have hD4 := HBB.out.size
            go_wp2_with fail
            go_region_held3 (fun w' => w'.cell? ⟨gn, k, none⟩ = some (.int .i64 (n k)))
              (first | exact PK.out _ HBB.out.drew | exact PK.out _ HBB.out | exact PK.out _ hbb3 | exact PK.out _ hbb3.drew | exact PK.out _ (hbb3.alloc hD5 _) | exact PK.out _ (hbb3.alloc hD5 _).drew | exact PK.out _ hbb4)
              (first
                | (go_at_call 12; refine (CS.out _).mono ?_; rintro e w3 ⟨B, Bx, rfl, hB, hBx, hna, hb3⟩; have hbl0 : ∃ F', Bld D n id id D N (k + 1) k 0 (put1 pb k B) F' (.slice aa k ac) (.slice none 0 0) w3 := (by first | exact HBk.out.act hB hBx hb3 hna | exact HBk.out.drew.act hB hBx hb3 hna); obtain ⟨F', hbl⟩ := hbl0; have hbb3 : Below D W2 w3 := (by first | exact HBB.out.trans (hb3.mono hD2) | exact HBB.out.drew.trans (hb3.mono (show D ≤ wr.heap.size from hD2))); have hD5 : D ≤ w3.heap.size := hbl.size; unfold pa)
                | (revert hbb3; intro hbb3; refine step_append_lies _ (by rfl) (.tmp 47) (.tmp 57) _ (by rfl) D 26 i1 _ 1 8 Try.underlying25 hi1 hy0 hy1 hy2 rfl (by omega) (.slice aa k ac) k (actsV (put1 pb k B) k) (by rfl) (by first | exact (hbl.alloc _).ar | exact (hbl.alloc _).drew.ar | exact (hbl.drew.alloc _).ar) ⟨w3.heap.size, 0, none⟩ 1 1 [.pointer (some ⟨B, 0, none⟩)] (by rfl) (by rfl) (World.news_of_block (cs := #[.pointer (some ⟨B, 0, none⟩)]) (t := 26) (fr := (0, 0)) (heap_alloc_new w3 _)) (fun u hu => (by simp at hu; subst hu; rfl)) (by omega) (by unfold maxLen; omega) (by omega) (by simp; omega) (w3.heap.size + 1) (by simp) ?_; intro g4 c4 w4 hown4 hgrow4 hat4 hlt4; have hbb4 : Below D W2 w4 := (hbb3.alloc hD5 _).grown ⟨hgrow4.os, hgrow4.tape, hgrow4.output, hgrow4.size, hgrow4.block⟩ (by simp; omega) (fun q hq => (hbl.ar.lt q hq).1)))
            have hbl6 := hbl.alloc (.cells #[.pointer (some ⟨B, 0, none⟩)] 26)
            rw [actsV_put _ _ _ _ (Nat.le_refl _)] at hown4
            have HB5 := Lib.hid (hbl6.acts hown4 ⟨hgrow4.os, hgrow4.tape, hgrow4.output, hgrow4.size, hgrow4.block⟩)
            have HBB5 := Lib.hid hbb4
            clear hbl6 hown4 hgrow4 hat4 hlt4 hbl hbb3 hbb4 hna hb3 HBk
            go_wp2_with fail
            go_roundw
            case rel => exact ⟨k + 1, _, _, by omega, by go_num, HB5.out, HBB5.out⟩
            case measure => simp [intOf]; omega
          · obtain rfl : k = N := by omega
            have hq9 : ¬ (k : Int) < k := by omega
            have hN20 := HN20.out
            have hfit := HBk.out.fit (fun i => by have := hN20 i; omega) (fun i hi => hi)
            have hm := logMach_ok hfit
            have hsl : ∀ i, (lpk n id id D k k pb).sl i = i := fun i => rfl
            have HEND := Lib.hid (apart_end (lpk n id id D k k pb) hsl (fun i => by have := hN20 i; show n i ≤ 20; omega) ps)
            have HBW3 : Hid (Below w.heap.size w wr) := HBr.out.trans ((HBW.out.mono (by have := HBr.out.size; have := HD.out; omega)).trans (HBB.out.mono (by have := HBr.out.size; have := HD.out; omega)))
            have CT := turn_c hm (by show k ≤ 1000; omega) (.slice pa' Np pc) (.slice aa k ac) ps (by have := HNp.out; omega) s0 F wr HBk.out.mm (by have := HNp.out; show 0 + _ < _; omega) (hPV.out wr HBW3.out) (RowAt.of_own HBk.out.ar (by rw [ptrs_len]; rfl))
            obtain ⟨T, hT⟩ : ∃ T, (logMach (lpk n id id D k k pb)).turn0 s0 ps = T := ⟨_, rfl⟩
            obtain ⟨s1, c1⟩ := T
            have hcost1 : (logMach (lpk n id id D k k pb)).cost s1 ≤ 200 := by
              have h1 := (hm.turn_cost s0 ps).1
              unfold Mach.turn0 at hT
              split at hT
              · cases hT; exact Nat.zero_le _
              · rw [hT] at h1
                have h2 : (logMach (lpk n id id D k k pb)).cost s1 ≤ 0 + ps.length := h1
                have := HNp.out
                omega
            rw [hT] at CT HEND
            dsimp only at CT HEND
            have HCT := Lib.hid CT
            have Hm := Lib.hid hm
            have HC1 := Lib.hid hcost1
            have har := Lib.hid (own_zero HBk.out.ar)
            have hapa : Hid (Apart F (.slice aa k ac)) := by
              obtain ⟨vs, bx, cur, hlm⟩ := HBk.out.mm
              intro j hj
              obtain ⟨c, hc⟩ := own_cells HBk.out.ar hj
              exact hlm.noPA hc
            have hlo := Lib.hid HBk.out.lo
            have hsz := Lib.hid HBk.out.size
            have hnr := Lib.hid (PC.out wr HBB.out)
            have hnlt : Hid (∀ j, (Value.slice na k nc).ownBlock = some j → j < D) := fun j hj => by rw [← HD.out]; exact (HNr.out.lt j hj).2
            clear CT hT hm hcost1 hN20 hsl hfit HBk PC
            go_wp2_with fail
            refine HCT.out.mono ?_
            rintro e w5 ⟨rfl, F1, hM1, hv1⟩
            have HM1 := Lib.hid hM1
            have HB5 := Lib.hid (hv1.toBelow hsz.out hlo.out)
            obtain ⟨ha5, hap5⟩ := own_moved hv1 har.out hapa.out
            have HA5 := Lib.hid ha5
            have HAP5 := Lib.hid hap5
            have hlo5 : Hid (∀ k, F1 k → D ≤ k) := fun j hj => by
              by_cases hjw : j < wr.heap.size
              · exact hlo.out j (hv1.old j hjw hj)
              · have := hsz.out; omega
            have hsz5 : Hid (D ≤ w5.heap.size) := Nat.le_trans hsz.out hv1.size
            have CE := Lib.hid (rest_c Hm.out (by show k ≤ 20; omega) (.slice aa k ac) 20 20 rfl (by omega) s1 F1 w5 hM1 (by have := HC1.out; omega) (RowAt.of_own ha5 (by rw [ptrs_len]; rfl)))
            clear hM1 hv1 ha5 hap5 HCT har hapa hlo
            go_wp2_with fail
            refine CE.out.mono ?_
            rintro e w6 ⟨rfl, F2, hM2, hv2⟩
            have HB6 := Lib.hid (hv2.toBelow hsz5.out hlo5.out)
            obtain ⟨ha6, _⟩ := own_moved hv2 HA5.out HAP5.out
            obtain ⟨vs, bx, cur, hlm⟩ := hM2
            obtain ⟨s2, hs2⟩ : ∃ s2, ((logMach (lpk n id id D k k pb)).rest 20 s1).1 = s2 := ⟨_, rfl⟩
            rw [hs2] at hlm HEND
            have HLM := Lib.hid hlm
            have HA6 := Lib.hid ha6
            have hnr6 : Hid (w6.ownsRow 0 3 1 (.slice na k nc) k (rowD k n)) := own_same hnr.out fun j hj => (HB6.out.block j (hnlt.out j hj)).trans (HB5.out.block j (hnlt.out j hj))
            have HBW6 : Hid (Below w.heap.size w w6) := HBW3.out.trans ((HB5.out.mono (by have := HBr.out.size; have := HD.out; omega)).trans (HB6.out.mono (by have := HBr.out.size; have := HD.out; omega)))
            clear hv2 ha6 hlm hs2 CE HM1 HA5 HAP5 hlo5 HC1 HBW3 hnr
            go_wp2_with fail
            go_loopw [13] (fun i wx => ∃ j : Nat, j ≤ k ∧ i = .int .i64 j ∧ Hid (Below w6.heap.size w6 wx)) (fun i _ => k - (intOf i).toNat)
            case atStart => exact ⟨0, by omega, rfl, Below.refl _ _⟩
            case round =>
              obtain ⟨j, hj, rfl, HBx⟩ := hrel
              by_cases hjk : j < k
              · have hji : (j : Int) < k := by omega
                obtain ⟨e1, e2⟩ := HEND.out j hjk
                have e1' : s2.d j = n j := e1
                have e2' : (s2.lg j).length = n j := e2
                have hlx : LM (lpk n id id D k k pb) s2 F2 wr vs bx cur := HLM.out.stab fun q hq => by
                  obtain ⟨c, e, fz, hc⟩ := HLM.out.inn hq
                  exact HBx.out.block q (lt_of_block hc)
                have hact := hlx.fin j hjk e1
                have hpb : (lpk n id id D k k pb).pb j = pb j := rfl
                rw [hpb] at hact
                obtain ⟨ld, lcp, hvs⟩ := own_form (hlx.row j hjk)
                rw [e2'] at hvs
                have x0 : wr.cell? ⟨D, j, none⟩ = some (.slice ld (n j) lcp) := by
                  have := hlx.log.cell (hlx.slot j hjk)
                  rw [hvs] at this; exact this
                have xD : D < wr.heap.size := hlx.log.lt
                have hnx : wr.ownsRow 0 3 1 (.slice na k nc) k (rowD k n) := own_below hnr6.out HBx.out
                have hax : wr.ownsRow 0 26 1 (.slice aa k ac) k (ptrs (logMach (lpk n id id D k k pb))) := own_below HA6.out HBx.out
                obtain ⟨gn, rfl⟩ : ∃ g, na = some ⟨g, 0, none⟩ := by
                  rcases hnx.2 with ⟨h, h2⟩ | ⟨g, cap, cur, h, _⟩
                  · omega
                  · cases h; exact ⟨g, rfl⟩
                obtain ⟨ga, rfl⟩ : ∃ g, aa = some ⟨g, 0, none⟩ := by
                  rcases hax.2 with ⟨h, h2⟩ | ⟨g, cap, cur, h, _⟩
                  · omega
                  · cases h; exact ⟨g, rfl⟩
                have x1 : wr.cell? ⟨gn, j, none⟩ = some (.int .i64 (n j)) := by rw [hnx.cellAt j (by omega)]; exact rowD_at _ hjk
                have x2 : wr.cell? ⟨ga, j, none⟩ = some (pa (pb j)) := by rw [hax.cellAt j (by omega)]; exact ptrs_at (logMach (lpk n id id D k k pb)) hjk
                have HOV := Lib.hid (fun m => over_none (pb j) _ (wr.drewN m) hact)
                have HST := Lib.hid (fun m => aStep_over (pb j) _ (wr.drewN m) hact)
                unfold pa at x2 HOV HST
                obtain ⟨nj, hnj⟩ : ∃ nj, n j = nj := ⟨_, rfl⟩
                rw [hnj] at x0 x1
                clear hlx hact hvs e1 e2 e1' e2' hnx hax hnj hpb
                go_wp2_with fail
                go_quiet (first | (go_at_call 16; exact Calls.quiet_of_same (HOV.out _)) | (go_at_call 25; exact Calls.quiet_of_same (HST.out _)))
                have HB7 : Hid (Below w6.heap.size w6 (wr.drewN nq)) := below_drewN HBx.out _
                obtain ⟨W4, hW4⟩ : ∃ W4, wr.drewN nq = W4 := ⟨_, rfl⟩
                rw [hW4] at HB7 ⊢
                clear hW4 x0 x1 x2 HOV HST HBx
                go_wp2_with fail
                go_roundw
                case rel => exact ⟨j + 1, by omega, by go_num, HB7.out⟩
                case measure => simp [intOf]; omega
              · obtain rfl : j = k := by omega
                have hji : ¬ (j : Int) < j := by omega
                go_wp2_with fail
                go_roundw
                case rel => exact ⟨r + 1, by omega, by go_num, HBW6.out.trans (HBx.out.mono HBW6.out.size), own_below hnr6.out HBx.out⟩
                case measure => simp [intOf]; omega
      · have hr3 : ((r : Int) == 1) = true := by rw [beq_iff_eq]; omega
        have HR01 := Lib.hid hr01
        clear hr01
        go_wp2_with fail
        clear hr3
        have hcl : Cells (wr.alloc (.cells (logCells N) 23)) wr.heap.size 23 (logCells N) := heap_alloc_new _ _
        have hbW : Below wr.heap.size wr (wr.alloc (.cells (logCells N) 23)) := (Below.refl _ _).alloc (Nat.le_refl _) _
        have hszW : (wr.alloc (.cells (logCells N) 23)).heap.size = wr.heap.size + 1 := by simp
        obtain ⟨D, hD⟩ : ∃ D, wr.heap.size = D := ⟨_, rfl⟩
        rw [hD] at hcl hbW hszW ⊢
        obtain ⟨W2, hW2⟩ : ∃ W2, wr.alloc (.cells (logCells N) 23) = W2 := ⟨_, rfl⟩
        rw [hW2] at hcl hbW hszW ⊢
        have HD := Lib.hid hD
        clear hD hW2
        have hst := LM.start (lpk n id id D N 0 (fun _ => 0)) rfl (cur := logCells N) hcl (logCells_size N) (fun j hj => logCells_at N j hj)
        have HBLD : Hid (Bld D n id id D N 0 0 0 (fun _ => 0) (footOf (lpk n id id D N 0 (fun _ => 0)) s0 (fun _ => .slice none 0 0) (fun _ => 0)) (.slice none 0 0) (.slice none 0 0) W2) := by
          refine ⟨⟨_, _, _, hst⟩, fun i j hi => by omega, ?_, World.ownsRow_nil _ _ _ _, World.ownsRow_nil _ _ _ _, fun k hk => by (cases hk), by omega⟩
          rintro k (rfl | ⟨i, hi, _⟩ | ⟨j, hj, hk⟩ | ⟨i, hi, _⟩)
          · exact Nat.le_refl _
          · have : i < 0 := hi; omega
          · cases hk
          · have : i < 0 := hi; omega
        have HBW := Lib.hid hbW
        have HSW := Lib.hid hszW
        clear hst hcl hbW hszW
        go_loopw [11, 12] (fun av i w2 => ∃ (k : Nat) (pb : Nat → Nat) (F : Nat → Prop), k ≤ N ∧ i = .int .i64 k ∧ Hid (Bld D n id id D N k k 0 pb F av (.slice none 0 0) w2) ∧ Hid (Below D W2 w2)) (fun _ i _ => N - (intOf i).toNat)
        case atStart => exact ⟨0, _, _, Nat.zero_le _, rfl, HBLD, Below.refl _ _⟩
        case round =>
          obtain ⟨k, pb, F, hk, rfl, HBk, HBB⟩ := hrel
          clear HBLD
          have PC : Hid (∀ w', Below D W2 w' → w'.ownsRow 0 3 1 (.slice na N nc) N (rowD N n)) := fun w' hb => own_same HNr.out fun j hj => by
            have hj2 := (HNr.out.lt j hj).2
            rw [HD.out] at hj2
            exact (hb.block j hj2).trans (HBW.out.block j hj2)
          obtain ⟨aa, ac, hav⟩ := own_form HBk.out.ar
          subst hav
          by_cases hkN : k < N
          · have hq9 : (k : Int) < N := by omega
            obtain ⟨gn, rfl⟩ : ∃ g, na = some ⟨g, 0, none⟩ := by
              rcases HNr.out.2 with ⟨h, h2⟩ | ⟨g, cap, cur, h, _⟩
              · omega
              · cases h; exact ⟨g, rfl⟩
            have PK : Hid (∀ w', Below D W2 w' → w'.cell? ⟨gn, k, none⟩ = some (.int .i64 (n k))) := fun w' hb => by
              rw [(PC.out w' hb).cellAt k (by omega)]; exact rowD_at _ hkN
            have HNK : Hid (n k ≤ 1000) := by have := HN20.out k; show _ ≤ _; omega
            have CS := Lib.hid (fun W => steps_c (n k) k D k HNK.out W)
            unfold ptrV at CS
            have hD2 := HBk.out.size
            have hD3 := HSW.out
            have hD4 := HBB.out.size
            go_wp2_with fail
            go_region_held3 (fun w' => w'.cell? ⟨gn, k, none⟩ = some (.int .i64 (n k)))
              (first | exact PK.out _ HBB.out.drew | exact PK.out _ HBB.out | exact PK.out _ hbb3 | exact PK.out _ hbb3.drew | exact PK.out _ (hbb3.alloc hD5 _) | exact PK.out _ (hbb3.alloc hD5 _).drew | exact PK.out _ hbb4)
              (first
                | (go_at_call 12; refine (CS.out _).mono ?_; rintro e w3 ⟨B, Bx, rfl, hB, hBx, hna, hb3⟩; have hbl0 : ∃ F', Bld D n id id D N (k + 1) k 0 (put1 pb k B) F' (.slice aa k ac) (.slice none 0 0) w3 := (by first | exact HBk.out.act hB hBx hb3 hna | exact HBk.out.drew.act hB hBx hb3 hna); obtain ⟨F', hbl⟩ := hbl0; have hbb3 : Below D W2 w3 := (by first | exact HBB.out.trans (hb3.mono hD2) | exact HBB.out.drew.trans (hb3.mono (show D ≤ wr.heap.size from hD2))); have hD5 : D ≤ w3.heap.size := hbl.size; unfold pa)
                | (revert hbb3; intro hbb3; refine step_append_lies _ (by rfl) (.tmp 47) (.tmp 57) _ (by rfl) D 26 i1 _ 1 8 Try.underlying25 hi1 hy0 hy1 hy2 rfl (by omega) (.slice aa k ac) k (actsV (put1 pb k B) k) (by rfl) (by first | exact (hbl.alloc _).ar | exact (hbl.alloc _).drew.ar | exact (hbl.drew.alloc _).ar) ⟨w3.heap.size, 0, none⟩ 1 1 [.pointer (some ⟨B, 0, none⟩)] (by rfl) (by rfl) (World.news_of_block (cs := #[.pointer (some ⟨B, 0, none⟩)]) (t := 26) (fr := (0, 0)) (heap_alloc_new w3 _)) (fun u hu => (by simp at hu; subst hu; rfl)) (by omega) (by unfold maxLen; omega) (by omega) (by simp; omega) (w3.heap.size + 1) (by simp) ?_; intro g4 c4 w4 hown4 hgrow4 hat4 hlt4; have hbb4 : Below D W2 w4 := (hbb3.alloc hD5 _).grown ⟨hgrow4.os, hgrow4.tape, hgrow4.output, hgrow4.size, hgrow4.block⟩ (by simp; omega) (fun q hq => (hbl.ar.lt q hq).1)))
            have hbl6 := hbl.alloc (.cells #[.pointer (some ⟨B, 0, none⟩)] 26)
            rw [actsV_put _ _ _ _ (Nat.le_refl _)] at hown4
            have HB5 := Lib.hid (hbl6.acts hown4 ⟨hgrow4.os, hgrow4.tape, hgrow4.output, hgrow4.size, hgrow4.block⟩)
            have HBB5 := Lib.hid hbb4
            clear hbl6 hown4 hgrow4 hat4 hlt4 hbl hbb3 hbb4 hna hb3 HBk
            go_wp2_with fail
            go_roundw
            case rel => exact ⟨k + 1, _, _, by omega, by go_num, HB5.out, HBB5.out⟩
            case measure => simp [intOf]; omega
          · obtain rfl : k = N := by omega
            have hq9 : ¬ (k : Int) < k := by omega
            have hN20 := HN20.out
            have hfit := HBk.out.fit (fun i => by have := hN20 i; omega) (fun i hi => hi)
            have hm := logMach_ok hfit
            have hsl : ∀ i, (lpk n id id D k k pb).sl i = i := fun i => rfl
            have HEND := Lib.hid (apart_end (lpk n id id D k k pb) hsl (fun i => by have := hN20 i; show n i ≤ 20; omega) qs)
            have HBW3 : Hid (Below w.heap.size w wr) := HBr.out.trans ((HBW.out.mono (by have := HBr.out.size; have := HD.out; omega)).trans (HBB.out.mono (by have := HBr.out.size; have := HD.out; omega)))
            have CT := turn_c hm (by show k ≤ 1000; omega) (.slice qa Nq qc) (.slice aa k ac) qs (by have := HNq.out; omega) s0 F wr HBk.out.mm (by have := HNq.out; show 0 + _ < _; omega) (hQV.out wr HBW3.out) (RowAt.of_own HBk.out.ar (by rw [ptrs_len]; rfl))
            obtain ⟨T, hT⟩ : ∃ T, (logMach (lpk n id id D k k pb)).turn0 s0 qs = T := ⟨_, rfl⟩
            obtain ⟨s1, c1⟩ := T
            have hcost1 : (logMach (lpk n id id D k k pb)).cost s1 ≤ 200 := by
              have h1 := (hm.turn_cost s0 qs).1
              unfold Mach.turn0 at hT
              split at hT
              · cases hT; exact Nat.zero_le _
              · rw [hT] at h1
                have h2 : (logMach (lpk n id id D k k pb)).cost s1 ≤ 0 + qs.length := h1
                have := HNq.out
                omega
            rw [hT] at CT HEND
            dsimp only at CT HEND
            have HCT := Lib.hid CT
            have Hm := Lib.hid hm
            have HC1 := Lib.hid hcost1
            have har := Lib.hid (own_zero HBk.out.ar)
            have hapa : Hid (Apart F (.slice aa k ac)) := by
              obtain ⟨vs, bx, cur, hlm⟩ := HBk.out.mm
              intro j hj
              obtain ⟨c, hc⟩ := own_cells HBk.out.ar hj
              exact hlm.noPA hc
            have hlo := Lib.hid HBk.out.lo
            have hsz := Lib.hid HBk.out.size
            have hnr := Lib.hid (PC.out wr HBB.out)
            have hnlt : Hid (∀ j, (Value.slice na k nc).ownBlock = some j → j < D) := fun j hj => by rw [← HD.out]; exact (HNr.out.lt j hj).2
            clear CT hT hm hcost1 hN20 hsl hfit HBk PC
            go_wp2_with fail
            refine HCT.out.mono ?_
            rintro e w5 ⟨rfl, F1, hM1, hv1⟩
            have HM1 := Lib.hid hM1
            have HB5 := Lib.hid (hv1.toBelow hsz.out hlo.out)
            obtain ⟨ha5, hap5⟩ := own_moved hv1 har.out hapa.out
            have HA5 := Lib.hid ha5
            have HAP5 := Lib.hid hap5
            have hlo5 : Hid (∀ k, F1 k → D ≤ k) := fun j hj => by
              by_cases hjw : j < wr.heap.size
              · exact hlo.out j (hv1.old j hjw hj)
              · have := hsz.out; omega
            have hsz5 : Hid (D ≤ w5.heap.size) := Nat.le_trans hsz.out hv1.size
            have CE := Lib.hid (rest_c Hm.out (by show k ≤ 20; omega) (.slice aa k ac) 20 20 rfl (by omega) s1 F1 w5 hM1 (by have := HC1.out; omega) (RowAt.of_own ha5 (by rw [ptrs_len]; rfl)))
            clear hM1 hv1 ha5 hap5 HCT har hapa hlo
            go_wp2_with fail
            refine CE.out.mono ?_
            rintro e w6 ⟨rfl, F2, hM2, hv2⟩
            have HB6 := Lib.hid (hv2.toBelow hsz5.out hlo5.out)
            obtain ⟨ha6, _⟩ := own_moved hv2 HA5.out HAP5.out
            obtain ⟨vs, bx, cur, hlm⟩ := hM2
            obtain ⟨s2, hs2⟩ : ∃ s2, ((logMach (lpk n id id D k k pb)).rest 20 s1).1 = s2 := ⟨_, rfl⟩
            rw [hs2] at hlm HEND
            have HLM := Lib.hid hlm
            have HA6 := Lib.hid ha6
            have hnr6 : Hid (w6.ownsRow 0 3 1 (.slice na k nc) k (rowD k n)) := own_same hnr.out fun j hj => (HB6.out.block j (hnlt.out j hj)).trans (HB5.out.block j (hnlt.out j hj))
            have HBW6 : Hid (Below w.heap.size w w6) := HBW3.out.trans ((HB5.out.mono (by have := HBr.out.size; have := HD.out; omega)).trans (HB6.out.mono (by have := HBr.out.size; have := HD.out; omega)))
            clear hv2 ha6 hlm hs2 CE HM1 HA5 HAP5 hlo5 HC1 HBW3 hnr
            go_wp2_with fail
            go_loopw [13] (fun i wx => ∃ j : Nat, j ≤ k ∧ i = .int .i64 j ∧ Hid (Below w6.heap.size w6 wx)) (fun i _ => k - (intOf i).toNat)
            case atStart => exact ⟨0, by omega, rfl, Below.refl _ _⟩
            case round =>
              obtain ⟨j, hj, rfl, HBx⟩ := hrel
              by_cases hjk : j < k
              · have hji : (j : Int) < k := by omega
                obtain ⟨e1, e2⟩ := HEND.out j hjk
                have e1' : s2.d j = n j := e1
                have e2' : (s2.lg j).length = n j := e2
                have hlx : LM (lpk n id id D k k pb) s2 F2 wr vs bx cur := HLM.out.stab fun q hq => by
                  obtain ⟨c, e, fz, hc⟩ := HLM.out.inn hq
                  exact HBx.out.block q (lt_of_block hc)
                have hact := hlx.fin j hjk e1
                have hpb : (lpk n id id D k k pb).pb j = pb j := rfl
                rw [hpb] at hact
                obtain ⟨ld, lcp, hvs⟩ := own_form (hlx.row j hjk)
                rw [e2'] at hvs
                have x0 : wr.cell? ⟨D, j, none⟩ = some (.slice ld (n j) lcp) := by
                  have := hlx.log.cell (hlx.slot j hjk)
                  rw [hvs] at this; exact this
                have xD : D < wr.heap.size := hlx.log.lt
                have hnx : wr.ownsRow 0 3 1 (.slice na k nc) k (rowD k n) := own_below hnr6.out HBx.out
                have hax : wr.ownsRow 0 26 1 (.slice aa k ac) k (ptrs (logMach (lpk n id id D k k pb))) := own_below HA6.out HBx.out
                obtain ⟨gn, rfl⟩ : ∃ g, na = some ⟨g, 0, none⟩ := by
                  rcases hnx.2 with ⟨h, h2⟩ | ⟨g, cap, cur, h, _⟩
                  · omega
                  · cases h; exact ⟨g, rfl⟩
                obtain ⟨ga, rfl⟩ : ∃ g, aa = some ⟨g, 0, none⟩ := by
                  rcases hax.2 with ⟨h, h2⟩ | ⟨g, cap, cur, h, _⟩
                  · omega
                  · cases h; exact ⟨g, rfl⟩
                have x1 : wr.cell? ⟨gn, j, none⟩ = some (.int .i64 (n j)) := by rw [hnx.cellAt j (by omega)]; exact rowD_at _ hjk
                have x2 : wr.cell? ⟨ga, j, none⟩ = some (pa (pb j)) := by rw [hax.cellAt j (by omega)]; exact ptrs_at (logMach (lpk n id id D k k pb)) hjk
                have HOV := Lib.hid (fun m => over_none (pb j) _ (wr.drewN m) hact)
                have HST := Lib.hid (fun m => aStep_over (pb j) _ (wr.drewN m) hact)
                unfold pa at x2 HOV HST
                obtain ⟨nj, hnj⟩ : ∃ nj, n j = nj := ⟨_, rfl⟩
                rw [hnj] at x0 x1
                clear hlx hact hvs e1 e2 e1' e2' hnx hax hnj hpb
                go_wp2_with fail
                go_quiet (first | (go_at_call 16; exact Calls.quiet_of_same (HOV.out _)) | (go_at_call 25; exact Calls.quiet_of_same (HST.out _)))
                have HB7 : Hid (Below w6.heap.size w6 (wr.drewN nq)) := below_drewN HBx.out _
                obtain ⟨W4, hW4⟩ : ∃ W4, wr.drewN nq = W4 := ⟨_, rfl⟩
                rw [hW4] at HB7 ⊢
                clear hW4 x0 x1 x2 HOV HST HBx
                go_wp2_with fail
                go_roundw
                case rel => exact ⟨j + 1, by omega, by go_num, HB7.out⟩
                case measure => simp [intOf]; omega
              · obtain rfl : j = k := by omega
                have hji : ¬ (j : Int) < j := by omega
                go_wp2_with fail
                go_roundw
                case rel => exact ⟨r + 1, by omega, by go_num, HBW6.out.trans (HBx.out.mono HBW6.out.size), own_below hnr6.out HBx.out⟩
                case measure => simp [intOf]; omega
    · obtain rfl : r = 2 := by omega
      clear HNr
      have hro : RowAt (wr.alloc (.cells #[.pointer none] 26)) (.slice (some ⟨wr.heap.size, 0, none⟩) 1 1) [.pointer none] := by
        refine .inr ⟨⟨wr.heap.size, 0, none⟩, 1, rfl, fun j u hj => ⟨wr.heap.size, 0, rfl, by simp, ?_⟩⟩
        have hb : Cells (wr.alloc (.cells #[.pointer none] 26)) wr.heap.size 26 #[.pointer none] := heap_alloc_new _ _
        refine hb.cell ?_
        rw [Nat.zero_add]
        simpa using hj
      have CN := Lib.hid (nil_rest _ _ hro)
      have hb9 : Hid (Below w.heap.size w (wr.alloc (.cells #[.pointer none] 26))) := HBr.out.alloc HBr.out.size _
      clear hro
      go_wp2_with (first | (go_at_call 16; refine (over_nil _).mono ?_; rintro e w' ⟨rfl, rfl⟩) | (go_at_call 25; refine (aStep_nil _).mono ?_; rintro e w' ⟨rfl, rfl⟩) | (go_at_call 19; refine (count_nil _).mono ?_; rintro e w' ⟨rfl, rfl⟩))
      refine CN.out.mono ?_
      rintro e w2 ⟨rfl, hb2⟩
      have HB2 : Hid (Below w.heap.size w w2) := hb9.out.trans (hb2.mono hb9.out.size)
      clear hb2 CN hb9
      go_wp2_with fail
      refine (awake4_c _).mono ?_
      rintro e w3 ⟨rfl, hb3⟩
      have HB3 : Hid (Below w.heap.size w w3) := HB2.out.trans (hb3.mono HB2.out.size)
      clear hb3
      go_wp2_with fail
      go_ret
      exact ⟨rfl, HB3.out⟩
end Go.Proofs.Ytpooieeeicffpaa

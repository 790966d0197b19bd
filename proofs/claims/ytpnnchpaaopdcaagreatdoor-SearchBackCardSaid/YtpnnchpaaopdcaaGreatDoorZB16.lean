/-
  The bytes' replacer: Replace: contract.
-/
import Derived.Test.YtpnnchpaaopdcaaGreatDoorZB04
import Derived.Test.YtpnnchpaaopdcaaGreatDoorZB15
import Derived.Deep.OwnRows
import Derived.Deep.RegionHeld3
import Derived.RegionTactic
import Derived.Deep.RegionLaw
import Derived.Laws.IdiomCopy
set_option linter.unusedVariables false
set_option linter.unusedSimpArgs false
namespace Go.Proofs.YtpnnchpaaopdcaaGreatDoor
open Go Go.RowKit
variable {W : World} {rb b1 b2 t tc : Nat}
theorem isE_cases (c : UInt8) : (c.toNat = 34 ∧ c = 34 ∧ isE c = true) ∨ (c.toNat = 92 ∧ c = 92 ∧ isE c = true) ∨ (c.toNat ≠ 34 ∧ c.toNat ≠ 92 ∧ isE c = false) := by
  by_cases h1 : c.toNat = 34
  · have : c = 34 := UInt8.toNat_inj.1 h1
    subst this; exact .inl ⟨rfl, rfl, rfl⟩
  · by_cases h2 : c.toNat = 92
    · have : c = 92 := UInt8.toNat_inj.1 h2
      subst this; exact .inr (.inl ⟨rfl, rfl, rfl⟩)
    · refine .inr (.inr ⟨h1, h2, ?_⟩)
      have a : c ≠ 34 := fun e => h1 (by rw [e]; rfl)
      have b : c ≠ 92 := fun e => h2 (by rw [e]; rfl)
      simp [isE, a, b]
theorem cnt_succ {l : List UInt8} {k : Nat} (hk : k < l.length) : (l.take (k + 1)).countP isE = (l.take k).countP isE + (if isE l[k] then 1 else 0) := by
  rw [List.take_succ_eq_append_getElem hk, List.countP_append, List.countP_singleton]
theorem infoU8 : (Tryz.prog.info? 5).map (fun i => (i.zero, i.size, i.bytes)) = some (some (.int .u8 0), 1, 1) := by kernel_rfl
def BufAt (W : World) (b : Nat) (pre : List UInt8) (M : Nat) : Prop := ∃ cur : Array Value, W.heap[b]? = some (.cells cur 5 (0, 0)) ∧ cur.size = M ∧ ∀ (j : Nat) (c : UInt8), pre[j]? = some c → cur[j]? = some (Value.int .u8 (c.toNat : Int))
theorem BufAt.lt {W : World} {b : Nat} {pre : List UInt8} {M : Nat} (h : BufAt W b pre M) : b < W.heap.size := by
  obtain ⟨cur, hc, _⟩ := h
  exact (Array.getElem?_eq_some_iff.1 hc).1
theorem BufAt.there {W : World} {b : Nat} {pre : List UInt8} {M : Nat} (h : BufAt W b pre M) {i : Nat} (hi : i < M) : (∃ v, W.cell? ⟨b, i, none⟩ = some v) ∧ W.frozen? ⟨b, i, none⟩ = false := by
  obtain ⟨cur, hc, hs, _⟩ := h
  refine ⟨⟨cur[i]'(by omega), ?_⟩, by simp [World.frozen?, hc]⟩
  simp [World.cell?, hc, Array.getElem?_eq_getElem (show i < cur.size by omega)]
theorem BufAt.put {W : World} {b : Nat} {pre : List UInt8} {M : Nat} (h : BufAt W b pre M) (c : UInt8) (hi : pre.length < M) : BufAt (W.setCell ⟨b, pre.length, none⟩ (.int .u8 (c.toNat : Int))) b (pre ++ [c]) M := by
  obtain ⟨cur, hc, hs, hl⟩ := h
  obtain ⟨hlt, hk⟩ := Array.getElem?_eq_some_iff.1 hc
  refine ⟨cur.setIfInBounds pre.length (.int .u8 (c.toNat : Int)), ?_, by simpa using hs, fun j d hj => ?_⟩
  · show (W.heap.modify b _)[b]? = _
    rw [Array.getElem?_eq_getElem (by rw [Array.size_modify]; exact hlt), Array.getElem_modify_self, hk]
    simp
  · rw [Array.getElem?_setIfInBounds]
    rcases Nat.lt_trichotomy j pre.length with h | h | h
    · rw [if_neg (by omega)]
      rw [List.getElem?_append_left h] at hj
      exact hl j d hj
    · subst h
      rw [List.getElem?_append_right (Nat.le_refl _), Nat.sub_self] at hj
      obtain rfl : c = d := by simpa using hj
      simp [hs, hi]
    · rw [List.getElem?_eq_none (by simp; omega)] at hj; cases hj
theorem BufAt.new (W : World) (M : Nat) : BufAt (W.alloc (.cells (madeCells #[.int .u8 0] M) 5)) W.heap.size [] M := ⟨_, heap_alloc_new W _, by simp [madeCells], fun j c h => by simp at h⟩
theorem BufAt.back {W : World} {b : Nat} {l : List UInt8} {M : Nat} (h : BufAt W b l M) (hM : l.length = M) (cap : Nat) : (convert 97 9 (.slice (some ⟨b, 0, none⟩) M cap)).run Tryz.prog W = .ok (.string (txt l)) W := by
  subst hM
  obtain ⟨cur, hc, hs, hl⟩ := h
  exact run_convert_bytes_back (P := Tryz.prog) W 97 9 5 ⟨b, 0, none⟩ cap l Tryz.underlying97 Tryz.underlying5 Tryz.underlying9 (fun j hj => by
    rw [Addr.add_lit, Nat.zero_add]
    have := hl j _ (List.getElem?_eq_getElem hj)
    simp [World.cell?, hc, this])
theorem wp_copy2 {P : Program} {op : Oper} {a : Act} {w w' : World} {K : Act → World → Prop} {Q : Exit → Act → World → Prop} {d x : Operand} {t : TypeId} {dv xv v : Value} (hop : op.op = .call { callee := .builtin .copy, args := #[d, x], argTypes := #[t, t] })
    (hd : a.eval d = dv) (hx : a.eval x = xv) (hrun : (Builtin.copy_ #[t, t] op.type #[dv, xv]).run P w = .ok v w') (h : K (a.put op.dst v) w') : op.wp P a w K Q := by
  unfold Oper.wp execOp
  simp only [hop, resolve, invoke, builtin, Sem.run_bind, Sem.run_pure, Result.andThen_ok, List.map_toArray, List.map_cons, List.map_nil, hd, hx, hrun]
  exact h
theorem cell_same9 {w w' : World} {a : Addr} (h : w'.heap[a.block]? = w.heap[a.block]?) : w'.cell? a = w.cell? a := by unfold World.cell?; rw [h]
theorem escL_take_le (l : List UInt8) (k : Nat) : (escL (l.take k)).length ≤ (escL l).length := by
  have h : escL (l.take k ++ l.drop k) = escL (l.take k) ++ escL (l.drop k) := by simp only [escL, List.flatMap_append]
  rw [List.take_append_drop] at h
  rw [h, List.length_append]
  omega
theorem escL_next {l : List UInt8} {k : Nat} (hk : k < l.length) : escL (l.take (k + 1)) = escL (l.take k) ++ escB l[k] := by
  rw [List.take_succ_eq_append_getElem hk, escL_snoc]
set_option maxRecDepth 100000 in
set_option maxHeartbeats 8000000 in
theorem bsRepl_c (hv : BsView W rb b1 b2) (h256 : W.cell? ⟨rb, 256, none⟩ = some (.slice (some ⟨t, 0, none⟩) 2 tc)) (ht0 : W.cell? ⟨t, 0, none⟩ = some (.string sO2)) (ht1 : W.cell? ⟨t, 1, none⟩ = some (.string sO1)) (htl : t < W.heap.size) (l : List UInt8) (hl : l.length ≤ 1000) :
    Calls Tryz.prog 340 #[pt0 rb, .string (txt l)] W fun e w' => e = .returned (.string (txt (escL l))) ∧ Below W.heap.size W w' := by
  have e1 := txt_size l
  have C34 := fun n => Tryz.strings_Count_one (txt l) 34 (W.drewN n)
  have C92 := fun n => Tryz.strings_Count_one (txt l) 92 (W.drewN n)
  rw [data_txt] at C34 C92
  have hct := count_two l
  have hsame := @escL_same l
  have hlen := escL_len l
  obtain ⟨N, hN⟩ : ∃ N, l.length = N := ⟨_, rfl⟩
  obtain ⟨c34, h34⟩ : ∃ c, Lib.countByte l 34 = c := ⟨_, rfl⟩
  obtain ⟨c92, h92⟩ : ∃ c, Lib.countByte l 92 = c := ⟨_, rfl⟩
  simp only [h34] at C34
  rw [h34] at hct
  simp only [h92] at C92
  rw [h92] at hct
  have hcl : l.countP isE ≤ N := by rw [← hN]; exact List.countP_le_length
  obtain ⟨C, hC⟩ : ∃ C, l.countP isE = C := ⟨_, rfl⟩
  obtain ⟨B, hB⟩ : ∃ B, txt l = B := ⟨_, rfl⟩
  have hat : ∀ k (hk : k < B.size), l[k]? = some B[k] := fun k hk => by
    subst hB
    rw [at_txt (by rw [txt_size] at hk; exact hk)]; exact List.getElem?_eq_getElem _
  simp only [hB] at C34 C92
  rw [hB] at e1 ⊢
  rw [hN] at e1 hl hlen
  rw [hC] at hct hcl hlen hsame
  have C34 := Lib.hid C34
  have C92 := Lib.hid C92
  have HN := Lib.hid hN
  have HC := Lib.hid hC
  have HB := Lib.hid hB
  have HAT := Lib.hid hat
  have HSAME := Lib.hid hsame
  have HLEN := Lib.hid hlen
  have HV := Lib.hid hv
  obtain ⟨d34, k34⟩ := hv.k34
  obtain ⟨d92, k92⟩ := hv.k92
  have krb := hv.lt
  have kne : ∀ (w : World) (a : Addr) (n c : Nat), (binOp .neq 97 (.slice (some a) n c) (.slice none 0 0)).run Tryz.prog w = .ok (.bool true) w := fun w a n c => by rfl
  have kne0 : ∀ (w : World), (binOp .neq 97 (.slice none 0 0) (.slice none 0 0)).run Tryz.prog w = .ok (.bool false) w := fun w => by rfl
  have ho1 : (sO1[0]'(by decide)).toNat = 92 := by rfl
  have ho2 : (sO2[0]'(by decide)).toNat = 34 := by rfl
  clear hv hN hB hC hat hsame hlen h34 h92
  by_cases h16 : 16 ≤ N
  · have q16 : (16 : Int) ≤ N := by omega
    go_enter Tryz.func340, Tryz.ntmps340
    go_wp2_with fail
    go_loopw [5, 6, 8, 9, 32] (fun ns any _ _ i wr => ∃ n, wr = W.drewN n ∧ ((i = .int .i64 0 ∧ ns = .int .i64 N ∧ any = .bool false) ∨ (i = .int .i64 1 ∧ ns = .int .i64 ((N : Int) + c34) ∧ any = .bool (decide (0 < c34))) ∨ (i = .int .i64 2 ∧ ns = .int .i64 ((N : Int) + C) ∧ any = .bool (decide (0 < C))))) (fun _ _ _ _ i _ => (2 - intOf i).toNat)
    case atStart => exact ⟨0, rfl, .inl ⟨rfl, rfl, rfl⟩⟩
    case round =>
      obtain ⟨n, rfl, hrel⟩ := hrel
      rcases hrel with ⟨rfl, rfl, rfl⟩ | ⟨rfl, rfl, rfl⟩ | ⟨rfl, rfl, rfl⟩
      · skip
        by_cases hz : c34 = 0
        · have z1 : ((c34 : Int) == 0) = true := qT (by omega)
          have z2 : ((c34 : Int) != 0) = false := by rw [bne_eq_false_iff_eq]; omega
          go_wp2_with (go_at_call 342; refine (C34.out _).mono ?_; rintro e w' ⟨rfl, hw⟩; rw [hw]; clear hw)
          go_roundw
          case rel => exact ⟨n, rfl, .inr (.inl ⟨rfl, by rw [hz]; simp, by rw [hz]; rfl⟩)⟩
          case measure => simp [intOf]
        · have z1 : ((c34 : Int) == 0) = false := qF (by omega)
          have z2 : ((c34 : Int) != 0) = true := qN (by omega)
          have zb : c34 ≤ 1000 := by omega
          go_wp2_with (go_at_call 342; refine (C34.out _).mono ?_; rintro e w' ⟨rfl, hw⟩; rw [hw]; clear hw)
          go_quiet (fail)
          go_wp2_with fail
          go_roundw
          case rel => exact ⟨n + nq, by first | rfl | rw [World.drewN_drewN], .inr (.inl ⟨rfl, by go_num, by rw [decide_eq_true (by omega)]⟩)⟩
          case measure => simp [intOf]
      · skip
        by_cases hz : c92 = 0
        · have z1 : ((c92 : Int) == 0) = true := qT (by omega)
          have z2 : ((c92 : Int) != 0) = false := by rw [bne_eq_false_iff_eq]; omega
          go_wp2_with (go_at_call 342; refine (C92.out _).mono ?_; rintro e w' ⟨rfl, hw⟩; rw [hw]; clear hw)
          go_roundw
          case rel => exact ⟨n, rfl, .inr (.inr ⟨rfl, by rw [show C = c34 by omega], by rw [show C = c34 by omega]⟩)⟩
          case measure => simp [intOf]
        · have z1 : ((c92 : Int) == 0) = false := qF (by omega)
          have z2 : ((c92 : Int) != 0) = true := qN (by omega)
          have zb : c92 ≤ 1000 := by omega
          go_wp2_with (go_at_call 342; refine (C92.out _).mono ?_; rintro e w' ⟨rfl, hw⟩; rw [hw]; clear hw)
          go_quiet (fail)
          go_wp2_with fail
          go_roundw
          case rel => exact ⟨n + nq, by first | rfl | rw [World.drewN_drewN], .inr (.inr ⟨rfl, by rw [show (C : Int) = c34 + c92 by omega]; go_num, by rw [decide_eq_true (by omega)]⟩)⟩
          case measure => simp [intOf]
      · clear hct
        by_cases hC0 : C = 0
        · have dC : decide (0 < C) = false := decide_eq_false (by omega)
          have HS : Hid (txt (escL l) = B) := by show _ = _; rw [HSAME.out hC0]; exact HB.out
          go_wp2_with fail
          go_ret
          exact ⟨by rw [HS.out]; rfl, below_drewN (Below.refl _ _) _⟩
        have dC : decide (0 < C) = true := decide_eq_true (by omega)
        obtain ⟨M, hM⟩ : ∃ M, N + C = M := ⟨_, rfl⟩
        have hMi : (N : Int) + C = (M : Int) := by omega
        have HML : Hid ((escL l).length = M) := by show _ = _; rw [HLEN.out, hM]
        have hM9 : M ≤ 2000 := by omega
        have hmk : (Instr.makeSlice 97 (.int .i64 (M : Int)) (.int .i64 (M : Int))).run Tryz.prog (W.drewN n) = .ok (.slice (some ⟨W.heap.size, 0, none⟩) M M) ((W.drewN n).alloc (.cells (madeCells #[.int .u8 0] M) 5)) := by
          exact run_make_row' 97 5 (.int .u8 0) 1 Tryz.underlying97 infoU8 rfl .i64 .i64 M (by omega) (by omega) (W.drewN n)
        have HB0 : Hid (BufAt ((W.drewN n).alloc (.cells (madeCells #[.int .u8 0] M) 5)) W.heap.size [] M) := BufAt.new (W.drewN n) M
        have HW0 : Hid (Below W.heap.size W ((W.drewN n).alloc (.cells (madeCells #[.int .u8 0] M) 5))) := (below_drewN (Below.refl _ _) _).alloc (Nat.le_refl _) _
        go_wp2_with fail
        go_loopw [13, 14, 15] (fun jv iv _ wr => ∃ k m : Nat, k ≤ N ∧ iv = .int .i64 k ∧ jv = .int .i64 m ∧ Hid ((escL (l.take k)).length = m) ∧ Hid (BufAt wr W.heap.size (escL (l.take k)) M) ∧ Hid (Below W.heap.size W wr)) (fun _ iv _ _ => N - (intOf iv).toNat)
        case atStart => exact ⟨0, 0, Nat.zero_le _, rfl, rfl, rfl, HB0.out, HW0.out⟩
        case round =>
          obtain ⟨k, m, hk, rfl, rfl, HMM, HBF, HBW⟩ := hrel
          by_cases hlt : k < N
          · have hq : (k : Int) < N := by omega
            have hq0 : (0 : Int) ≤ k := by omega
            have hkB : k < B.size := by omega
            have hc1 : B[k].toNat < 256 := B[k].toNat_lt
            obtain ⟨hkl, hbk⟩ := List.getElem?_eq_some_iff.1 (HAT.out k hkB)
            have hnx := escL_next hkl
            have hle := escL_take_le l (k + 1)
            rw [hbk] at hnx
            rw [HML.out, hnx, List.length_append, HMM.out, escB_len] at hle
            have hcell : ∀ i, wr.cell? ⟨rb, i, none⟩ = W.cell? ⟨rb, i, none⟩ := fun i => HBW.out.cell (p := ⟨rb, i, none⟩) krb
            have hsz3 := HBW.out.size
            have hbf := HBF.out.lt
            rcases isE_cases B[k] with ⟨h1, h2, h3⟩ | ⟨h1, h2, h3⟩ | ⟨h1, h2, h3⟩
            · have kx : wr.cell? ⟨rb, B[k].toNat, none⟩ = some (.slice (some ⟨b1, 0, none⟩) 2 d34) := by rw [hcell, h1]; exact k34
              rw [h3] at hle
              have hmM : m + 2 ≤ M := by have := hle; simp at this; omega
              have hmi : (m : Int) ≤ M := by omega
              have hm0 : (0 : Int) ≤ m := by omega
              have hMm : ¬ M = m := by omega
              have hx256 : (B[k].toNat : Int) < 256 := by omega
              have hx0 : (0 : Int) ≤ (B[k].toNat : Int) := by omega
              have hby := bytes_keep HV.out.t1 (HBW.out.block b1 HV.out.t1.lt)
              have HE : Hid (escL (l.take (k + 1)) = (escL (l.take k) ++ [92]) ++ [34]) := by show _ = _; rw [hnx, h2]; simp [escB, isE]
              have p1 := HBF.out.put 92 (by rw [HMM.out]; omega)
              have p2 := p1.put 34 (by rw [List.length_append, HMM.out]; simp; omega)
              rw [← HE.out, List.length_append, HMM.out] at p2
              obtain ⟨wE, hwE⟩ : ∃ wE, wr.drew.setCells W.heap.size m [.int .u8 92, .int .u8 34] = wE := ⟨_, rfl⟩
              have hHeap : wE.heap = ((wr.setCell ⟨W.heap.size, m, none⟩ (.int .u8 92)).setCell ⟨W.heap.size, m + 1, none⟩ (.int .u8 34)).heap := by rw [← hwE]; rfl
              have HP : Hid (BufAt wE W.heap.size (escL (l.take (k + 1))) M) := by
                show BufAt _ _ _ _
                unfold BufAt at p2 ⊢
                rw [hHeap]
                exact p2
              have hHk : ∀ i, i ≠ W.heap.size → wE.heap[i]? = wr.heap[i]? := fun i hi => by
                rw [hHeap]
                exact (Below.heap_setCell _ ⟨W.heap.size, m + 1, none⟩ _ i hi).trans (Below.heap_setCell wr ⟨W.heap.size, m, none⟩ _ i hi)
              have HP2 : Hid (Below W.heap.size W wE) := ⟨by rw [← hwE]; exact HBW.out.os, by rw [← hwE]; exact HBW.out.tape, by rw [← hwE]; exact HBW.out.output, by rw [hHeap, size_setCell, size_setCell]; exact HBW.out.size, fun i hi => (hHk i (by omega)).trans (HBW.out.block i hi)⟩
              have HL2 : Hid ((escL (l.take (k + 1))).length = m + 2) := by show _ = _; rw [HE.out, List.length_append, List.length_append, HMM.out]; rfl
              have hcp : Hid (∀ dl dc, 2 ≤ dl → (Builtin.copy_ #[97, 97] 3 #[.slice (some ⟨W.heap.size, m, none⟩) dl dc, .slice (some ⟨b1, 0, none⟩) 2 d34]).run Tryz.prog wr.drew = .ok (.int .i64 2) wE) := fun dl dc hdl => by
                have := run_copy_cells (P := Tryz.prog) wr.drew 97 97 3 5 W.heap.size m dl dc ⟨b1, 0, none⟩ 2 d34 [.int .u8 92, .int .u8 34] Tryz.underlying97 (by kernel_rfl) (Nat.min_eq_left hdl).symm
                  (fun j v hj => by
                    rw [Addr.add_lit, Nat.zero_add]
                    match j, hj with
                    | 0, hj => cases hj; exact (hby.cell (j := 0) rfl).1
                    | 1, hj => cases hj; exact (hby.cell (j := 1) rfl).1
                    | j + 2, hj => simp at hj)
                  (fun j hj => by
                    obtain ⟨⟨v, hv⟩, _⟩ := HBF.out.there (i := m + j) (by simp at hj; omega)
                    rw [show wr.drew.cell? ⟨W.heap.size, m + j, none⟩ = wr.cell? ⟨W.heap.size, m + j, none⟩ from rfl, hv]; rfl)
                  (fun j hj => (HBF.out.there (i := m + j) (by simp at hj; omega)).2)
                  (fun v hv => by simp at hv; rcases hv with rfl | rfl <;> rfl)
                rw [hwE] at this
                exact this
              have kx2 : wE.cell? ⟨rb, B[k].toNat, none⟩ = some (.slice (some ⟨b1, 0, none⟩) 2 d34) := (cell_same9 (hHk rb (by omega))).trans kx
              clear hkl hbk hnx hle hcell h1 h2 h3 p1 p2 hby hHeap hHk hwE
              go_wp2_with fail
              first | go_region_held3 (fun w' => w'.cell? ⟨rb, B[k].toNat, none⟩ = some (.slice (some ⟨b1, 0, none⟩) 2 d34)) (first | exact kx | exact kx2) (first | (rw [if_pos (by rfl)]; refine wp_copy2 (dv := .slice (some ⟨W.heap.size, m, none⟩) (M - m) (M - m)) (xv := .slice (some ⟨b1, 0, none⟩) 2 d34) rfl (by rfl) (by rfl) (hcp.out _ _ (by omega)) ?_) | fail) | fail "held"
              go_wp2_with fail
              go_roundw
              case rel => exact ⟨k + 1, m + 2, by omega, by go_num, by first | go_num | (rw [show IntKind.i64.wrap ((m : Int) + 2) = ((m + 2 : Nat) : Int) from by rw [IntKind.wrap_i64]; omega]), HL2.out, HP.out, HP2.out⟩
              case measure => simp [intOf]; omega
            · have kx : wr.cell? ⟨rb, B[k].toNat, none⟩ = some (.slice (some ⟨b2, 0, none⟩) 2 d92) := by rw [hcell, h1]; exact k92
              rw [h3] at hle
              have hmM : m + 2 ≤ M := by have := hle; simp at this; omega
              have hmi : (m : Int) ≤ M := by omega
              have hm0 : (0 : Int) ≤ m := by omega
              have hMm : ¬ M = m := by omega
              have hx256 : (B[k].toNat : Int) < 256 := by omega
              have hx0 : (0 : Int) ≤ (B[k].toNat : Int) := by omega
              have hby := bytes_keep HV.out.t2 (HBW.out.block b2 HV.out.t2.lt)
              have HE : Hid (escL (l.take (k + 1)) = (escL (l.take k) ++ [92]) ++ [92]) := by show _ = _; rw [hnx, h2]; simp [escB, isE]
              have p1 := HBF.out.put 92 (by rw [HMM.out]; omega)
              have p2 := p1.put 92 (by rw [List.length_append, HMM.out]; simp; omega)
              rw [← HE.out, List.length_append, HMM.out] at p2
              obtain ⟨wE, hwE⟩ : ∃ wE, wr.drew.setCells W.heap.size m [.int .u8 92, .int .u8 92] = wE := ⟨_, rfl⟩
              have hHeap : wE.heap = ((wr.setCell ⟨W.heap.size, m, none⟩ (.int .u8 92)).setCell ⟨W.heap.size, m + 1, none⟩ (.int .u8 92)).heap := by rw [← hwE]; rfl
              have HP : Hid (BufAt wE W.heap.size (escL (l.take (k + 1))) M) := by
                show BufAt _ _ _ _
                unfold BufAt at p2 ⊢
                rw [hHeap]
                exact p2
              have hHk : ∀ i, i ≠ W.heap.size → wE.heap[i]? = wr.heap[i]? := fun i hi => by
                rw [hHeap]
                exact (Below.heap_setCell _ ⟨W.heap.size, m + 1, none⟩ _ i hi).trans (Below.heap_setCell wr ⟨W.heap.size, m, none⟩ _ i hi)
              have HP2 : Hid (Below W.heap.size W wE) := ⟨by rw [← hwE]; exact HBW.out.os, by rw [← hwE]; exact HBW.out.tape, by rw [← hwE]; exact HBW.out.output, by rw [hHeap, size_setCell, size_setCell]; exact HBW.out.size, fun i hi => (hHk i (by omega)).trans (HBW.out.block i hi)⟩
              have HL2 : Hid ((escL (l.take (k + 1))).length = m + 2) := by show _ = _; rw [HE.out, List.length_append, List.length_append, HMM.out]; rfl
              have hcp : Hid (∀ dl dc, 2 ≤ dl → (Builtin.copy_ #[97, 97] 3 #[.slice (some ⟨W.heap.size, m, none⟩) dl dc, .slice (some ⟨b2, 0, none⟩) 2 d92]).run Tryz.prog wr.drew = .ok (.int .i64 2) wE) := fun dl dc hdl => by
                have := run_copy_cells (P := Tryz.prog) wr.drew 97 97 3 5 W.heap.size m dl dc ⟨b2, 0, none⟩ 2 d92 [.int .u8 92, .int .u8 92] Tryz.underlying97 (by kernel_rfl) (Nat.min_eq_left hdl).symm
                  (fun j v hj => by
                    rw [Addr.add_lit, Nat.zero_add]
                    match j, hj with
                    | 0, hj => cases hj; exact (hby.cell (j := 0) rfl).1
                    | 1, hj => cases hj; exact (hby.cell (j := 1) rfl).1
                    | j + 2, hj => simp at hj)
                  (fun j hj => by
                    obtain ⟨⟨v, hv⟩, _⟩ := HBF.out.there (i := m + j) (by simp at hj; omega)
                    rw [show wr.drew.cell? ⟨W.heap.size, m + j, none⟩ = wr.cell? ⟨W.heap.size, m + j, none⟩ from rfl, hv]; rfl)
                  (fun j hj => (HBF.out.there (i := m + j) (by simp at hj; omega)).2)
                  (fun v hv => by simp at hv; rcases hv with rfl | rfl <;> rfl)
                rw [hwE] at this
                exact this
              have kx2 : wE.cell? ⟨rb, B[k].toNat, none⟩ = some (.slice (some ⟨b2, 0, none⟩) 2 d92) := (cell_same9 (hHk rb (by omega))).trans kx
              clear hkl hbk hnx hle hcell h1 h2 h3 p1 p2 hby hHeap hHk hwE
              go_wp2_with fail
              first | go_region_held3 (fun w' => w'.cell? ⟨rb, B[k].toNat, none⟩ = some (.slice (some ⟨b2, 0, none⟩) 2 d92)) (first | exact kx | exact kx2) (first | (rw [if_pos (by rfl)]; refine wp_copy2 (dv := .slice (some ⟨W.heap.size, m, none⟩) (M - m) (M - m)) (xv := .slice (some ⟨b2, 0, none⟩) 2 d92) rfl (by rfl) (by rfl) (hcp.out _ _ (by omega)) ?_) | fail) | fail "held"
              go_wp2_with fail
              go_roundw
              case rel => exact ⟨k + 1, m + 2, by omega, by go_num, by first | go_num | (rw [show IntKind.i64.wrap ((m : Int) + 2) = ((m + 2 : Nat) : Int) from by rw [IntKind.wrap_i64]; omega]), HL2.out, HP.out, HP2.out⟩
              case measure => simp [intOf]; omega
            · have kx : wr.cell? ⟨rb, B[k].toNat, none⟩ = some (.slice none 0 0) := (hcell _).trans (HV.out.no _ hc1 h1 h2)
              rw [h3] at hle
              have hmM : m < M := by have := hle; simp at this; omega
              have hmi : (m : Int) < M := by omega
              have hm0 : (0 : Int) ≤ m := by omega
              obtain ⟨⟨xv, hx1⟩, hx2⟩ := HBF.out.there hmM
              have HE : Hid (escL (l.take (k + 1)) = escL (l.take k) ++ [B[k]]) := by show _ = _; rw [hnx]; unfold escB; rw [h3]; rfl
              have HP : Hid (BufAt (wr.setCell ⟨W.heap.size, m, none⟩ (.int .u8 (B[k].toNat : Int))) W.heap.size (escL (l.take (k + 1))) M) := by
                have := HBF.out.put B[k] (by rw [HMM.out]; exact hmM)
                rw [HMM.out, ← HE.out] at this
                exact this
              have HP2 : Hid (Below W.heap.size W (wr.setCell ⟨W.heap.size, m, none⟩ (.int .u8 (B[k].toNat : Int)))) := ⟨HBW.out.os, HBW.out.tape, HBW.out.output, by rw [size_setCell]; exact HBW.out.size, fun i hi => (Below.heap_setCell wr ⟨W.heap.size, m, none⟩ _ i (by show i ≠ W.heap.size; omega)).trans (HBW.out.block i hi)⟩
              have HL2 : Hid ((escL (l.take (k + 1))).length = m + 1) := by show _ = _; rw [HE.out, List.length_append, HMM.out]; rfl
              clear hkl hbk hnx hle hcell h1 h2 h3
              go_wp2_with fail
              go_roundw
              case rel => exact ⟨k + 1, m + 1, by omega, by go_num, by go_num, HL2.out, HP.out, HP2.out⟩
              case measure => simp [intOf]; omega
          · obtain rfl : k = N := by omega
            have hq : ¬ (k : Int) < k := by omega
            have hbk := HBF.out
            rw [List.take_of_length_le (by rw [HN.out]; exact Nat.le_refl _)] at hbk
            have kcv := hbk.back HML.out M
            clear hbk
            go_wp2_with fail
            go_ret
            exact ⟨rfl, HBW.out⟩
  · have q16 : ¬ (16 : Int) ≤ N := by omega
    go_enter Tryz.func340, Tryz.ntmps340
    go_wp2_with fail
    go_loopw [5, 6, 10, 11] (fun ns any i _ wr => wr = W ∧ ∃ k m : Nat, k ≤ N ∧ i = .int .i64 k ∧ ns = .int .i64 ((N : Int) + m) ∧ any = .bool (decide (0 < m)) ∧ m ≤ k ∧ Hid (m = (l.take k).countP isE)) (fun _ _ i _ _ => N - (intOf i).toNat)
    case atStart => exact ⟨rfl, 0, 0, Nat.zero_le _, rfl, rfl, rfl, Nat.le_refl _, rfl⟩
    case round =>
      obtain ⟨hwW, k, m, hk, rfl, rfl, rfl, hmk, HM⟩ := hrel
      have hwW := hwW.symm
      subst hwW
      by_cases hlt : k < N
      · have hq : (k : Int) < N := by omega
        have hq0 : (0 : Int) ≤ k := by omega
        have hkB : k < B.size := by omega
        have hc1 : B[k].toNat < 256 := B[k].toNat_lt
        obtain ⟨hkl, hbk⟩ := List.getElem?_eq_some_iff.1 (HAT.out k hkB)
        have hnx := cnt_succ hkl
        rw [hbk] at hnx
        rcases isE_cases B[k] with ⟨h1, h2, h3⟩ | ⟨h1, h2, h3⟩ | ⟨h1, h2, h3⟩
        · have kx : W.cell? ⟨rb, B[k].toNat, none⟩ = some (.slice (some ⟨b1, 0, none⟩) 2 d34) := by rw [h1]; exact k34
          have HM2 : Hid (m + 1 = (l.take (k + 1)).countP isE) := by show _ = _; rw [hnx, h3, ← HM.out]; rfl
          clear hkl hbk hnx h1 h2 h3
          go_wp2_with fail
          go_roundw
          case rel => exact ⟨trivial, k + 1, m + 1, by omega, by go_num, by go_num, by rw [decide_eq_true (by omega)], by omega, HM2.out⟩
          case measure => simp [intOf]; omega
        · have kx : W.cell? ⟨rb, B[k].toNat, none⟩ = some (.slice (some ⟨b2, 0, none⟩) 2 d92) := by rw [h1]; exact k92
          have HM2 : Hid (m + 1 = (l.take (k + 1)).countP isE) := by show _ = _; rw [hnx, h3, ← HM.out]; rfl
          clear hkl hbk hnx h1 h2 h3
          go_wp2_with fail
          go_roundw
          case rel => exact ⟨trivial, k + 1, m + 1, by omega, by go_num, by go_num, by rw [decide_eq_true (by omega)], by omega, HM2.out⟩
          case measure => simp [intOf]; omega
        · have kx : W.cell? ⟨rb, B[k].toNat, none⟩ = some (.slice none 0 0) := HV.out.no _ hc1 h1 h2
          have HM2 : Hid (m = (l.take (k + 1)).countP isE) := by show _ = _; rw [hnx, h3, ← HM.out]; rfl
          clear hkl hbk hnx h1 h2 h3
          go_wp2_with fail
          go_roundw
          case rel => exact ⟨trivial, k + 1, m, by omega, by go_num, rfl, rfl, by omega, HM2.out⟩
          case measure => simp [intOf]; omega
      · have hkN : N = k := by omega
        have hmC : C = m := by rw [HM.out, ← HC.out, List.take_of_length_le (by rw [HN.out]; omega)]
        clear HM
        clear hct
        subst hkN
        subst hmC
        have hq : ¬ (N : Int) < N := by omega
        by_cases hC0 : C = 0
        · have dC : decide (0 < C) = false := decide_eq_false (by omega)
          have HS : Hid (txt (escL l) = B) := by show _ = _; rw [HSAME.out hC0]; exact HB.out
          go_wp2_with fail
          go_ret
          exact ⟨by rw [HS.out]; rfl, Below.refl _ _⟩
        have dC : decide (0 < C) = true := decide_eq_true (by omega)
        obtain ⟨M, hM⟩ : ∃ M, N + C = M := ⟨_, rfl⟩
        have hMi : (N : Int) + C = (M : Int) := by omega
        have HML : Hid ((escL l).length = M) := by show _ = _; rw [HLEN.out, hM]
        have hM9 : M ≤ 2000 := by omega
        have hmk : (Instr.makeSlice 97 (.int .i64 (M : Int)) (.int .i64 (M : Int))).run Tryz.prog (W) = .ok (.slice (some ⟨W.heap.size, 0, none⟩) M M) ((W).alloc (.cells (madeCells #[.int .u8 0] M) 5)) := by
          exact run_make_row' 97 5 (.int .u8 0) 1 Tryz.underlying97 infoU8 rfl .i64 .i64 M (by omega) (by omega) (W)
        have HB0 : Hid (BufAt ((W).alloc (.cells (madeCells #[.int .u8 0] M) 5)) W.heap.size [] M) := BufAt.new (W) M
        have HW0 : Hid (Below W.heap.size W ((W).alloc (.cells (madeCells #[.int .u8 0] M) 5))) := (Below.refl _ _).alloc (Nat.le_refl _) _
        go_wp2_with fail
        go_loopw [13, 14, 15] (fun jv iv _ wr => ∃ k m : Nat, k ≤ N ∧ iv = .int .i64 k ∧ jv = .int .i64 m ∧ Hid ((escL (l.take k)).length = m) ∧ Hid (BufAt wr W.heap.size (escL (l.take k)) M) ∧ Hid (Below W.heap.size W wr)) (fun _ iv _ _ => N - (intOf iv).toNat)
        case atStart => exact ⟨0, 0, Nat.zero_le _, rfl, rfl, rfl, HB0.out, HW0.out⟩
        case round =>
          obtain ⟨k, m, hk, rfl, rfl, HMM, HBF, HBW⟩ := hrel
          by_cases hlt : k < N
          · have hq : (k : Int) < N := by omega
            have hq0 : (0 : Int) ≤ k := by omega
            have hkB : k < B.size := by omega
            have hc1 : B[k].toNat < 256 := B[k].toNat_lt
            obtain ⟨hkl, hbk⟩ := List.getElem?_eq_some_iff.1 (HAT.out k hkB)
            have hnx := escL_next hkl
            have hle := escL_take_le l (k + 1)
            rw [hbk] at hnx
            rw [HML.out, hnx, List.length_append, HMM.out, escB_len] at hle
            have hcell : ∀ i, wr.cell? ⟨rb, i, none⟩ = W.cell? ⟨rb, i, none⟩ := fun i => HBW.out.cell (p := ⟨rb, i, none⟩) krb
            have hsz3 := HBW.out.size
            have hbf := HBF.out.lt
            rcases isE_cases B[k] with ⟨h1, h2, h3⟩ | ⟨h1, h2, h3⟩ | ⟨h1, h2, h3⟩
            · have kx : wr.cell? ⟨rb, B[k].toNat, none⟩ = some (.slice (some ⟨b1, 0, none⟩) 2 d34) := by rw [hcell, h1]; exact k34
              rw [h3] at hle
              have hmM : m + 2 ≤ M := by have := hle; simp at this; omega
              have hmi : (m : Int) ≤ M := by omega
              have hm0 : (0 : Int) ≤ m := by omega
              have hMm : ¬ M = m := by omega
              have hx256 : (B[k].toNat : Int) < 256 := by omega
              have hx0 : (0 : Int) ≤ (B[k].toNat : Int) := by omega
              have hby := bytes_keep HV.out.t1 (HBW.out.block b1 HV.out.t1.lt)
              have HE : Hid (escL (l.take (k + 1)) = (escL (l.take k) ++ [92]) ++ [34]) := by show _ = _; rw [hnx, h2]; simp [escB, isE]
              have p1 := HBF.out.put 92 (by rw [HMM.out]; omega)
              have p2 := p1.put 34 (by rw [List.length_append, HMM.out]; simp; omega)
              rw [← HE.out, List.length_append, HMM.out] at p2
              obtain ⟨wE, hwE⟩ : ∃ wE, wr.drew.setCells W.heap.size m [.int .u8 92, .int .u8 34] = wE := ⟨_, rfl⟩
              have hHeap : wE.heap = ((wr.setCell ⟨W.heap.size, m, none⟩ (.int .u8 92)).setCell ⟨W.heap.size, m + 1, none⟩ (.int .u8 34)).heap := by rw [← hwE]; rfl
              have HP : Hid (BufAt wE W.heap.size (escL (l.take (k + 1))) M) := by
                show BufAt _ _ _ _
                unfold BufAt at p2 ⊢
                rw [hHeap]
                exact p2
              have hHk : ∀ i, i ≠ W.heap.size → wE.heap[i]? = wr.heap[i]? := fun i hi => by
                rw [hHeap]
                exact (Below.heap_setCell _ ⟨W.heap.size, m + 1, none⟩ _ i hi).trans (Below.heap_setCell wr ⟨W.heap.size, m, none⟩ _ i hi)
              have HP2 : Hid (Below W.heap.size W wE) := ⟨by rw [← hwE]; exact HBW.out.os, by rw [← hwE]; exact HBW.out.tape, by rw [← hwE]; exact HBW.out.output, by rw [hHeap, size_setCell, size_setCell]; exact HBW.out.size, fun i hi => (hHk i (by omega)).trans (HBW.out.block i hi)⟩
              have HL2 : Hid ((escL (l.take (k + 1))).length = m + 2) := by show _ = _; rw [HE.out, List.length_append, List.length_append, HMM.out]; rfl
              have hcp : Hid (∀ dl dc, 2 ≤ dl → (Builtin.copy_ #[97, 97] 3 #[.slice (some ⟨W.heap.size, m, none⟩) dl dc, .slice (some ⟨b1, 0, none⟩) 2 d34]).run Tryz.prog wr.drew = .ok (.int .i64 2) wE) := fun dl dc hdl => by
                have := run_copy_cells (P := Tryz.prog) wr.drew 97 97 3 5 W.heap.size m dl dc ⟨b1, 0, none⟩ 2 d34 [.int .u8 92, .int .u8 34] Tryz.underlying97 (by kernel_rfl) (Nat.min_eq_left hdl).symm
                  (fun j v hj => by
                    rw [Addr.add_lit, Nat.zero_add]
                    match j, hj with
                    | 0, hj => cases hj; exact (hby.cell (j := 0) rfl).1
                    | 1, hj => cases hj; exact (hby.cell (j := 1) rfl).1
                    | j + 2, hj => simp at hj)
                  (fun j hj => by
                    obtain ⟨⟨v, hv⟩, _⟩ := HBF.out.there (i := m + j) (by simp at hj; omega)
                    rw [show wr.drew.cell? ⟨W.heap.size, m + j, none⟩ = wr.cell? ⟨W.heap.size, m + j, none⟩ from rfl, hv]; rfl)
                  (fun j hj => (HBF.out.there (i := m + j) (by simp at hj; omega)).2)
                  (fun v hv => by simp at hv; rcases hv with rfl | rfl <;> rfl)
                rw [hwE] at this
                exact this
              have kx2 : wE.cell? ⟨rb, B[k].toNat, none⟩ = some (.slice (some ⟨b1, 0, none⟩) 2 d34) := (cell_same9 (hHk rb (by omega))).trans kx
              clear hkl hbk hnx hle hcell h1 h2 h3 p1 p2 hby hHeap hHk hwE
              go_wp2_with fail
              first | go_region_held3 (fun w' => w'.cell? ⟨rb, B[k].toNat, none⟩ = some (.slice (some ⟨b1, 0, none⟩) 2 d34)) (first | exact kx | exact kx2) (first | (rw [if_pos (by rfl)]; refine wp_copy2 (dv := .slice (some ⟨W.heap.size, m, none⟩) (M - m) (M - m)) (xv := .slice (some ⟨b1, 0, none⟩) 2 d34) rfl (by rfl) (by rfl) (hcp.out _ _ (by omega)) ?_) | fail) | fail "held"
              go_wp2_with fail
              go_roundw
              case rel => exact ⟨k + 1, m + 2, by omega, by go_num, by first | go_num | (rw [show IntKind.i64.wrap ((m : Int) + 2) = ((m + 2 : Nat) : Int) from by rw [IntKind.wrap_i64]; omega]), HL2.out, HP.out, HP2.out⟩
              case measure => simp [intOf]; omega
            · have kx : wr.cell? ⟨rb, B[k].toNat, none⟩ = some (.slice (some ⟨b2, 0, none⟩) 2 d92) := by rw [hcell, h1]; exact k92
              rw [h3] at hle
              have hmM : m + 2 ≤ M := by have := hle; simp at this; omega
              have hmi : (m : Int) ≤ M := by omega
              have hm0 : (0 : Int) ≤ m := by omega
              have hMm : ¬ M = m := by omega
              have hx256 : (B[k].toNat : Int) < 256 := by omega
              have hx0 : (0 : Int) ≤ (B[k].toNat : Int) := by omega
              have hby := bytes_keep HV.out.t2 (HBW.out.block b2 HV.out.t2.lt)
              have HE : Hid (escL (l.take (k + 1)) = (escL (l.take k) ++ [92]) ++ [92]) := by show _ = _; rw [hnx, h2]; simp [escB, isE]
              have p1 := HBF.out.put 92 (by rw [HMM.out]; omega)
              have p2 := p1.put 92 (by rw [List.length_append, HMM.out]; simp; omega)
              rw [← HE.out, List.length_append, HMM.out] at p2
              obtain ⟨wE, hwE⟩ : ∃ wE, wr.drew.setCells W.heap.size m [.int .u8 92, .int .u8 92] = wE := ⟨_, rfl⟩
              have hHeap : wE.heap = ((wr.setCell ⟨W.heap.size, m, none⟩ (.int .u8 92)).setCell ⟨W.heap.size, m + 1, none⟩ (.int .u8 92)).heap := by rw [← hwE]; rfl
              have HP : Hid (BufAt wE W.heap.size (escL (l.take (k + 1))) M) := by
                show BufAt _ _ _ _
                unfold BufAt at p2 ⊢
                rw [hHeap]
                exact p2
              have hHk : ∀ i, i ≠ W.heap.size → wE.heap[i]? = wr.heap[i]? := fun i hi => by
                rw [hHeap]
                exact (Below.heap_setCell _ ⟨W.heap.size, m + 1, none⟩ _ i hi).trans (Below.heap_setCell wr ⟨W.heap.size, m, none⟩ _ i hi)
              have HP2 : Hid (Below W.heap.size W wE) := ⟨by rw [← hwE]; exact HBW.out.os, by rw [← hwE]; exact HBW.out.tape, by rw [← hwE]; exact HBW.out.output, by rw [hHeap, size_setCell, size_setCell]; exact HBW.out.size, fun i hi => (hHk i (by omega)).trans (HBW.out.block i hi)⟩
              have HL2 : Hid ((escL (l.take (k + 1))).length = m + 2) := by show _ = _; rw [HE.out, List.length_append, List.length_append, HMM.out]; rfl
              have hcp : Hid (∀ dl dc, 2 ≤ dl → (Builtin.copy_ #[97, 97] 3 #[.slice (some ⟨W.heap.size, m, none⟩) dl dc, .slice (some ⟨b2, 0, none⟩) 2 d92]).run Tryz.prog wr.drew = .ok (.int .i64 2) wE) := fun dl dc hdl => by
                have := run_copy_cells (P := Tryz.prog) wr.drew 97 97 3 5 W.heap.size m dl dc ⟨b2, 0, none⟩ 2 d92 [.int .u8 92, .int .u8 92] Tryz.underlying97 (by kernel_rfl) (Nat.min_eq_left hdl).symm
                  (fun j v hj => by
                    rw [Addr.add_lit, Nat.zero_add]
                    match j, hj with
                    | 0, hj => cases hj; exact (hby.cell (j := 0) rfl).1
                    | 1, hj => cases hj; exact (hby.cell (j := 1) rfl).1
                    | j + 2, hj => simp at hj)
                  (fun j hj => by
                    obtain ⟨⟨v, hv⟩, _⟩ := HBF.out.there (i := m + j) (by simp at hj; omega)
                    rw [show wr.drew.cell? ⟨W.heap.size, m + j, none⟩ = wr.cell? ⟨W.heap.size, m + j, none⟩ from rfl, hv]; rfl)
                  (fun j hj => (HBF.out.there (i := m + j) (by simp at hj; omega)).2)
                  (fun v hv => by simp at hv; rcases hv with rfl | rfl <;> rfl)
                rw [hwE] at this
                exact this
              have kx2 : wE.cell? ⟨rb, B[k].toNat, none⟩ = some (.slice (some ⟨b2, 0, none⟩) 2 d92) := (cell_same9 (hHk rb (by omega))).trans kx
              clear hkl hbk hnx hle hcell h1 h2 h3 p1 p2 hby hHeap hHk hwE
              go_wp2_with fail
              first | go_region_held3 (fun w' => w'.cell? ⟨rb, B[k].toNat, none⟩ = some (.slice (some ⟨b2, 0, none⟩) 2 d92)) (first | exact kx | exact kx2) (first | (rw [if_pos (by rfl)]; refine wp_copy2 (dv := .slice (some ⟨W.heap.size, m, none⟩) (M - m) (M - m)) (xv := .slice (some ⟨b2, 0, none⟩) 2 d92) rfl (by rfl) (by rfl) (hcp.out _ _ (by omega)) ?_) | fail) | fail "held"
              go_wp2_with fail
              go_roundw
              case rel => exact ⟨k + 1, m + 2, by omega, by go_num, by first | go_num | (rw [show IntKind.i64.wrap ((m : Int) + 2) = ((m + 2 : Nat) : Int) from by rw [IntKind.wrap_i64]; omega]), HL2.out, HP.out, HP2.out⟩
              case measure => simp [intOf]; omega
            · have kx : wr.cell? ⟨rb, B[k].toNat, none⟩ = some (.slice none 0 0) := (hcell _).trans (HV.out.no _ hc1 h1 h2)
              rw [h3] at hle
              have hmM : m < M := by have := hle; simp at this; omega
              have hmi : (m : Int) < M := by omega
              have hm0 : (0 : Int) ≤ m := by omega
              obtain ⟨⟨xv, hx1⟩, hx2⟩ := HBF.out.there hmM
              have HE : Hid (escL (l.take (k + 1)) = escL (l.take k) ++ [B[k]]) := by show _ = _; rw [hnx]; unfold escB; rw [h3]; rfl
              have HP : Hid (BufAt (wr.setCell ⟨W.heap.size, m, none⟩ (.int .u8 (B[k].toNat : Int))) W.heap.size (escL (l.take (k + 1))) M) := by
                have := HBF.out.put B[k] (by rw [HMM.out]; exact hmM)
                rw [HMM.out, ← HE.out] at this
                exact this
              have HP2 : Hid (Below W.heap.size W (wr.setCell ⟨W.heap.size, m, none⟩ (.int .u8 (B[k].toNat : Int)))) := ⟨HBW.out.os, HBW.out.tape, HBW.out.output, by rw [size_setCell]; exact HBW.out.size, fun i hi => (Below.heap_setCell wr ⟨W.heap.size, m, none⟩ _ i (by show i ≠ W.heap.size; omega)).trans (HBW.out.block i hi)⟩
              have HL2 : Hid ((escL (l.take (k + 1))).length = m + 1) := by show _ = _; rw [HE.out, List.length_append, HMM.out]; rfl
              clear hkl hbk hnx hle hcell h1 h2 h3
              go_wp2_with fail
              go_roundw
              case rel => exact ⟨k + 1, m + 1, by omega, by go_num, by go_num, HL2.out, HP.out, HP2.out⟩
              case measure => simp [intOf]; omega
          · obtain rfl : k = N := by omega
            have hq : ¬ (k : Int) < k := by omega
            have hbk := HBF.out
            rw [List.take_of_length_le (by rw [HN.out]; exact Nat.le_refl _)] at hbk
            have kcv := hbk.back HML.out M
            clear hbk
            go_wp2_with fail
            go_ret
            exact ⟨rfl, HBW.out⟩
end Go.Proofs.YtpnnchpaaopdcaaGreatDoor

/-
  The law TokenReads: its walk.
-/
import Derived.Test.YtidhnhjhdmfpiaaDoorTkH
import Derived.Test.YtidhnhjhdmfpiaaDoorLs1
import Derived.Deep.QuietTactic
import Derived.Deep.RegionHeld
set_option linter.unusedVariables false
set_option linter.unusedSimpArgs false
namespace Go.Proofs.YtidhnhjhdmfpiaaDoor
open Go Go.RowKit
variable {W : World} {gr gd D : Nat} {s : RS} {S : List UInt8}

/-- What a reader is behind what it is asked. -/
def askS (d : Nat) (x : List UInt8) (s : RS) : RS :=
  if d = 0 then atomS s else if d = 1 then numS s else if d = 2 then strS s else if d = 3 then litS s else if d = 4 then mustS s [32] else if d = 5 then wordS s x else if d = 6 then s
  else if d = 7 then skipS (fun y => y == x.headD 32) s else if d = 8 then .gone else s
theorem asked_c (d : Nat) (hd9 : d < 256) (h : Two D S W W gr gd s) (hS : S.length ≤ 100000) (hDr : D ≤ gr) (hDd : D ≤ gd) (hDW : D ≤ W.heap.size) (hne : gr ≠ gd) (x : List UInt8) (hx : x.length ≤ 20) :
    Calls Tryd.prog 6 #[pt gr, pt gd, .agg #[.int .u8 d, .string (txt x)]] W (AskP D S W gr gd (askS d x s)) := by
  by_cases h8 : 8 < d
  · have : askS d x s = s := by
      unfold askS
      rw [if_neg (by omega), if_neg (by omega), if_neg (by omega), if_neg (by omega), if_neg (by omega), if_neg (by omega), if_neg (by omega), if_neg (by omega), if_neg (by omega)]
    rw [this]
    exact askNx_c d h8 hd9 h hS hDr hDd hDW hne x hx
  · match d, h8 with
    | 0, _ => exact askN0_c h hS hDr hDd hDW hne x hx
    | 1, _ => exact askN1_c h hS hDr hDd hDW hne x hx
    | 2, _ => exact askN2_c h hS hDr hDd hDW hne x hx
    | 3, _ => exact askN3_c h hS hDr hDd hDW hne x hx
    | 4, _ => exact askN4_c h hS hDr hDd hDW hne x hx
    | 5, _ => exact askN5_c h hS hDr hDd hDW hne x hx
    | 6, _ => exact askN6_c h hS hDr hDd hDW hne x hx
    | 7, _ => exact askN7_c h hS hDr hDd hDW hne x hx
    | 8, _ => exact askN8_c h hS hDr hDd hDW hne x hx
    | d + 9, h8 => exact absurd (by omega) h8
theorem DRS.fcell {g : Nat} {b : Bool} (h : DRS W g S s) (hf : s.f = b) : W.cell? ⟨g, 2, none⟩ = some (.bool b) := by
  obtain ⟨a, f, h1, h2, rfl⟩ := h
  have : f = b := by cases f <;> exact hf
  subst this
  exact Cells.cell h1 rfl
theorem DRS.new (W : World) (l : List UInt8) : DRS (W.alloc (.cells #[.string (txt l), .int .i64 0, .bool false] 27)) W.heap.size l ⟨l, false⟩ := ⟨0, false, heap_alloc_new W _, Nat.zero_le _, rfl⟩

theorem wpAnyH_of_quiet {P : Program} {md : Region.Mode} {ops : Array Oper} {H C : World → Prop} {Q : Act → Prop} {Q' : Exit → Act → World → Prop} (hCS : ∀ w, C w → H w) (hQ : ∀ a w, C w → Q a → Q' .normal a w) :
    ∀ (fuel : Nat) (listed : Array Bool) (a : Act) (w : World), C w → wpAnyQ P md ops C Q fuel listed a → wpAnyH P md ops Q' H fuel listed a w
  | 0, _, _, _, hw, h => ⟨h.1, hQ _ _ hw h.2⟩
  | fuel + 1, _, _, _, hw, h => ⟨fun h0 => hQ _ _ hw (h.1 h0), fun i hi => wpOp_of_qOp hw (fun a' w' hw' hk => ⟨hCS _ hw', wpAnyH_of_quiet hCS hQ fuel _ a' w' hw' hk⟩) (h.2 i hi)⟩
theorem wpAnyH_quiet_rest {P : Program} {md : Region.Mode} {ops : Array Oper} {H C : World → Prop} {Q : Exit → Act → World → Prop} {listed : Array Bool} {a : Act} {w : World} (k : Nat) (l : List Oper) (hs : Region.noSelect ops = true)
    (hl : ∀ j, l[j]? = ops[k + j]?) (hB : Region.lexFrom md ops l.length k listed = true) (hC : C w) (hCS : ∀ w, C w → H w) (h : wpQuiet P ops C (fun a' => ∀ w', C w' → Q .normal a' w') l a) : wpAnyH P md ops Q H l.length listed a w :=
  wpAnyH_of_quiet hCS (fun _ w' hw' h => h w' hw') _ _ _ _ hC (wpAnyQ_lex hs l k listed a hl hB h)

def encA (a : Nat × List UInt8) : List Value := [.int .u8 a.1, .string (txt a.2)]

set_option maxRecDepth 100000 in
set_option maxHeartbeats 8000000 in
theorem treads_walk (A : ByteArray) {v : Value} (l : List (Nat × List UInt8)) (hl : RowK 2 encA W v l) (h256 : ∀ a ∈ l, a.1 < 256) (hE : Errs W) :
    Calls Tryd.prog 3 #[.string A, v] W fun e w' => e = .returned (.bool true) ∧ Below W.heap.size W w' := by
  obtain ⟨la, lc, rfl⟩ := hl.form
  obtain ⟨Q, hQ⟩ : ∃ Q, l.length = Q := ⟨_, rfl⟩
  rw [hQ] at hl ⊢
  by_cases h1 : 2000 < A.size
  · have q : (2000 : Int) < A.size := by omega
    go_enter Tryd.func3, Tryd.ntmps3
    go_wp2_with fail
    go_ret
    exact ⟨rfl, Below.refl _ _⟩
  have q : ¬ (2000 : Int) < A.size := by omega
  by_cases h2 : 40 < Q
  · have q2 : (40 : Int) < Q := by omega
    go_enter Tryd.func3, Tryd.ntmps3
    go_wp2_with fail
    go_ret
    exact ⟨rfl, Below.refl _ _⟩
  have q2 : ¬ (40 : Int) < Q := by omega
  have R1 := tkRead_c A.data.toList W
  have hS9 : A.data.toList.length ≤ 100000 := by rw [ba_len]; omega
  rw [txt_data] at R1
  have hlt0 : 1 < W.heap.size ∧ 2 < W.heap.size := by
    obtain ⟨⟨t1, p1, e1⟩, t2, p2, e2⟩ := hE
    exact ⟨cell_lt e1, cell_lt e2⟩
  have HNEW : Hid (∀ w : World, DRS (w.alloc (.cells #[.string A, .int .i64 0, .bool false] 27)) w.heap.size A.data.toList ⟨A.data.toList, false⟩) := fun w => by
    have := DRS.new w A.data.toList
    rw [txt_data] at this
    exact this
  obtain ⟨D, hD⟩ : ∃ D, W.heap.size = D := ⟨_, rfl⟩
  obtain ⟨S, hS⟩ : ∃ S, A.data.toList = S := ⟨_, rfl⟩
  rw [hS] at R1 HNEW hS9
  rw [hD] at R1 hlt0 ⊢
  have R1 := Lib.hid R1
  have HE := Lib.hid hE
  have HL := Lib.hid hl
  have HQ := Lib.hid hQ
  have H256 := Lib.hid h256
  have HWD := Lib.hid hD
  have HLT0 := Lib.hid hlt0
  clear hE hl hQ h1 h2 h256 hlt0 hS hD
  go_enter Tryd.func3, Tryd.ntmps3
  go_wp2_with fail
  refine R1.out.mono ?_
  rintro e w1 ⟨rfl, h1, b1⟩
  have hlt1 : D < w1.heap.size := Cells.lt h1
  have hT1 : Two D S W (w1.alloc (.cells #[.string A, .int .i64 0, .bool false] 27)) D w1.heap.size ⟨S, false⟩ := by
    have hbb : Below D W (w1.alloc (.cells #[.string A, .int .i64 0, .bool false] 27)) := b1.alloc (by omega) _
    refine ⟨?_, HNEW.out w1, hbb, errs_belowD ⟨HLT0.out.1, HLT0.out.2, HE.out⟩ hbb⟩
    exact h1.tk (Tk.alloc (Tk.refl (D + 1) w1) _) (by omega)
  obtain ⟨gd, hgd⟩ : ∃ gd, w1.heap.size = gd := ⟨_, rfl⟩
  obtain ⟨w2, hw2⟩ : ∃ w2, w1.alloc (.cells #[.string A, .int .i64 0, .bool false] 27) = w2 := ⟨_, rfl⟩
  rw [hw2, hgd] at hT1
  rw [hgd] at hlt1
  have HT1 := Lib.hid hT1
  have HW2 := Lib.hid hw2
  have HGD := Lib.hid hgd
  clear h1 b1 hT1 hw2 hgd
  go_wp2_with fail
  rw [HW2.out, HGD.out]
  go_loopw [7] (fun iv wr => ∃ (k : Nat) (s : RS), k ≤ Q ∧ iv = .int .i64 k ∧ Hid (Two D S W wr D gd s)) (fun iv _ => Q - (intOf iv).toNat)
  case atStart => exact ⟨0, _, Nat.zero_le _, rfl, HT1.out⟩
  case round =>
    obtain ⟨k, s, hk, rfl, HT⟩ := hrel
    have hDr : D ≤ wr.heap.size := by have := HT.out.b.size; rw [HWD.out] at this; exact this
    by_cases hlt : k < Q
    · have hq : (k : Int) < Q := by omega
      have hq0 : (0 : Int) ≤ k := by omega
      obtain ⟨⟨d, x⟩, hr⟩ : ∃ r, l[k]? = some r := ⟨_, List.getElem?_eq_getElem (by have := HQ.out; omega)⟩
      have hd9 : d < 256 := H256.out _ (List.mem_of_getElem? hr)
      have hlw : RowK 2 encA wr (.slice la Q lc) l := HL.out.below (by rw [HWD.out]; exact HT.out.b)
      obtain ⟨b, off, rfl, hbb, hc⟩ := RowK.at hlw hr
      have c0 : wr.cell? ⟨b, off + k * 2, none⟩ = some (.int .u8 d) := by have := hc 0 _ rfl; simpa using this
      have c1 : wr.cell? ⟨b, off + k * 2 + 1, none⟩ = some (.string (txt x)) := hc 1 _ rfl
      have e1 := txt_size x
      obtain ⟨X, hX⟩ : ∃ X, txt x = X := ⟨_, rfl⟩
      rw [hX] at c1 e1
      by_cases h20 : 20 < x.length
      · have q3 : (20 : Int) < X.size := by omega
        clear hc hlw hr hX
        go_wp2_with fail
        go_ret
        exact ⟨rfl, HT.out.b⟩
      · have q3 : ¬ (20 : Int) < X.size := by omega
        have hbD : b < D := by
          obtain ⟨b', off', he, hb', _⟩ := RowK.at HL.out hr
          cases he
          rw [HWD.out] at hb'
          exact hb'
        have hTT : Two D S wr wr D gd s := ⟨HT.out.p, HT.out.d, Below.refl _ _, HT.out.e⟩
        have CA : ∀ w, Two D S w w D gd s → D ≤ w.heap.size → Calls Tryd.prog 6 #[pt D, pt gd, .agg #[.int .u8 d, .string X]] w (AskP D S w D gd (askS d x s)) := fun w hw hs => by
          rw [← hX]; exact asked_c d hd9 hw hS9 (Nat.le_refl _) (by omega) hs (by omega) x (by omega)
        obtain ⟨t, ht⟩ : ∃ t, askS d x s = t := ⟨_, rfl⟩
        rw [ht] at CA
        have CA := CA wr.drew ⟨hTT.p, hTT.d, Below.refl _ _, hTT.e⟩ hDr
        have CA := Lib.hid CA
        clear hc hlw hr hX ht hTT
        cases hf : t.f with
        | true =>
          have HK : Hid (∀ w2, Two D S wr.drew w2 D gd t → Two D S wr w2 D gd .gone ∧ (w2.cell? ⟨b, off + k * 2, none⟩ = some (.int .u8 d) ∧ w2.cell? ⟨b, off + k * 2 + 1, none⟩ = some (.string X)) ∧ w2.cell? ⟨gd, 2, none⟩ = some (.bool true) ∧ gd < w2.heap.size) := fun w2 hw => by
            have hb : Below D wr w2 := ⟨hw.b.os, hw.b.tape, hw.b.output, hw.b.size, hw.b.block⟩
            have hT2 : Two D S wr w2 D gd t := ⟨hw.p, hw.d, hb, hw.e⟩
            refine ⟨(by have := hw.d.gone_of hf; rw [this] at hT2; exact hT2), ⟨(cell_same (hb.block _ hbD)).trans c0, (cell_same (hb.block _ hbD)).trans c1⟩, hw.d.fcell hf, hw.d.lt⟩
          have CL : ∀ w, PR w D .gone → Calls Tryd.prog 7 #[pt D] w fun e w' => e = .returned (.int .i64 0) ∧ w' = w := fun w h => tkLeft_c h
          have CO : ∀ w, PR w D .gone → Calls Tryd.prog 9 #[pt D] w fun e w' => e = .returned (.bool false) ∧ w' = w := fun w h => tkOk_c h
          have CE : ∀ w, PR w D .gone → Calls Tryd.prog 10 #[pt D] w fun e w' => e = .returned (.bool false) ∧ w' = w := fun w h => tkEnd_c h
          have CR : ∀ w, DRS w gd S .gone → Calls Tryd.prog 8 #[pt gd] w fun e w' => e = .returned (.string ⟨#[]⟩) ∧ ∃ n, w' = w.drewN n := fun w h => rtRest_c h
          have CL := Lib.hid CL
          have CO := Lib.hid CO
          have CE := Lib.hid CE
          have CR := Lib.hid CR
          clear hf
          go_wp2_with fail
          refine wp_region_held_drew (S := fun w' => w'.cell? ⟨b, off + k * 2, none⟩ = some (.int .u8 d) ∧ w'.cell? ⟨b, off + k * 2 + 1, none⟩ = some (.string X)) (by kernel_rfl) ⟨c0, c1⟩ (fun hHeld => ?_)
          refine wpAnyH_take (i := 0) (v := ?_) rfl (by kernel_rfl) (by kernel_rfl) (by kernel_rfl) (fun _ _ _ h => h) (Or.inl ⟨by rfl, ?_⟩) hHeld ?_
          rotate_left
          · (intro w hSw; (try dsimp only at hSw); go_simp; try with_reducible rfl)
          try simp only [Act.put, List.setIfInBounds_toArray, List.set_cons_zero, List.set_cons_succ]
          refine wpAnyH_take (i := 1) (v := ?_) rfl (by kernel_rfl) (by kernel_rfl) (by kernel_rfl) (fun _ _ _ h => h) (Or.inl ⟨by rfl, ?_⟩) hHeld ?_
          rotate_left
          · (intro w hSw; (try dsimp only at hSw); go_simp; try with_reducible rfl)
          try simp only [Act.put, List.setIfInBounds_toArray, List.set_cons_zero, List.set_cons_succ]
          refine wpAnyH_take (i := 2) (v := ?_) rfl (by kernel_rfl) (by kernel_rfl) (by kernel_rfl) (fun _ _ _ h => h) (Or.inl ⟨by rfl, ?_⟩) hHeld ?_
          rotate_left
          · (intro w hSw; (try dsimp only at hSw); go_simp; try with_reducible rfl)
          try simp only [Act.put, List.setIfInBounds_toArray, List.set_cons_zero, List.set_cons_succ]
          refine wpAnyH_take (i := 3) (v := ?_) rfl (by kernel_rfl) (by kernel_rfl) (by kernel_rfl) (fun _ _ _ h => h) (Or.inl ⟨by rfl, ?_⟩) hHeld ?_
          rotate_left
          · (intro w hSw; (try dsimp only at hSw); go_simp; try with_reducible rfl)
          try simp only [Act.put, List.setIfInBounds_toArray, List.set_cons_zero, List.set_cons_succ]
          refine wpAnyH_take (i := 4) (v := ?_) rfl (by kernel_rfl) (by kernel_rfl) (by kernel_rfl) (fun _ _ _ h => h) (Or.inl ⟨by rfl, ?_⟩) hHeld ?_
          rotate_left
          · (intro w hSw; (try dsimp only at hSw); go_simp; try with_reducible rfl)
          try simp only [Act.put, List.setIfInBounds_toArray, List.set_cons_zero, List.set_cons_succ]
          refine wpAnyH_take (i := 5) (v := ?_) rfl (by kernel_rfl) (by kernel_rfl) (by kernel_rfl) (fun _ _ _ h => h) (Or.inl ⟨by rfl, ?_⟩) hHeld ?_
          rotate_left
          · (intro w hSw; (try dsimp only at hSw); go_simp; try with_reducible rfl)
          try simp only [Act.put, List.setIfInBounds_toArray, List.set_cons_zero, List.set_cons_succ]
          refine wpAnyH_ready (rs := [6]) (by kernel_rfl) (by simp) ?_
          refine AllReadyH.cons rfl (fun K hK => ?_) AllReadyH.nil
          go_simp
          refine CA.out.mono ?_
          rintro e w2 ⟨rfl, hT2'⟩
          obtain ⟨hT2, hs2, d2, dlt⟩ := HK.out w2 hT2'
          have HT2 := Lib.hid hT2
          have CL2 := Lib.hid (fun n => CL.out (w2.drewN n) hT2.p)
          have CO2 := Lib.hid (fun n => CO.out (w2.drewN n) hT2.p)
          have CE2 := Lib.hid (fun n => CE.out (w2.drewN n) hT2.p)
          have CR2 := Lib.hid (fun n => CR.out (w2.drewN n) hT2.d)
          refine hK.out _ _ hs2 (fun _ => ?_)
          clear hK K hT2 hT2' CA CL CO CE CR HK
          try simp only [Act.put, List.setIfInBounds_toArray, List.set_cons_zero, List.set_cons_succ]
          refine wpAnyH_quiet_rest (C := fun w' => ∃ n, w' = w2.drewN n) 7 (List.drop 7 (Array.toList _)) (by kernel_rfl) (fun j => by rw [List.getElem?_drop, Array.getElem?_toList]) (by kernel_rfl) ⟨0, rfl⟩ ?_ ?_
          · rintro w ⟨n, rfl⟩; exact hs2
          simp only [List.drop_succ_cons, List.drop_zero]
          repeat (quiet_step (first | (go_at_call 7; exact Calls.quiet_of_same (CL2.out _)) | (go_at_call 9; exact Calls.quiet_of_same (CO2.out _)) | (go_at_call 10; exact Calls.quiet_of_same (CE2.out _)) | (go_at_call 8; exact Calls.quiet_of (CR2.out _))))
          refine wpQuiet_nil ?_
          intro _ hw'
          obtain ⟨nq, hw''⟩ := hw'
          subst hw''
          have HTn : Hid (Two D S W (w2.drewN nq) D gd .gone) := ⟨HT2.out.p, HT2.out.d, below_drewN (HT.out.b.trans HT2.out.b) _, HT2.out.e⟩
          clear HT2 hs2 d2 dlt CL2 CO2 CE2 CR2
          go_wp2_with fail
          go_roundw
          case rel => exact ⟨k + 1, .gone, by omega, by go_num, HTn.out⟩
          case measure => simp [intOf]; omega
        | false =>
          have HK : Hid (∀ w2, Two D S wr.drew w2 D gd t → Two D S wr w2 D gd t ∧ (w2.cell? ⟨b, off + k * 2, none⟩ = some (.int .u8 d) ∧ w2.cell? ⟨b, off + k * 2 + 1, none⟩ = some (.string X)) ∧ w2.cell? ⟨gd, 2, none⟩ = some (.bool false) ∧ gd < w2.heap.size) := fun w2 hw => by
            have hb : Below D wr w2 := ⟨hw.b.os, hw.b.tape, hw.b.output, hw.b.size, hw.b.block⟩
            have hT2 : Two D S wr w2 D gd t := ⟨hw.p, hw.d, hb, hw.e⟩
            refine ⟨hT2, ⟨(cell_same (hb.block _ hbD)).trans c0, (cell_same (hb.block _ hbD)).trans c1⟩, hw.d.fcell hf, hw.d.lt⟩
          have hy := isEmpty_txt' t.l
          have e5 := txt_size t.l
          have CL : ∀ w, PR w D t → Calls Tryd.prog 7 #[pt D] w fun e w' => e = .returned (.int .i64 t.l.length) ∧ w' = w := fun w h => tkLeft_c h
          have CO : ∀ w, PR w D t → Calls Tryd.prog 9 #[pt D] w fun e w' => e = .returned (.bool true) ∧ w' = w := fun w h => by have := tkOk_c h; rw [hf] at this; exact this
          have CE : ∀ w, PR w D t → Calls Tryd.prog 10 #[pt D] w fun e w' => e = .returned (.bool t.l.isEmpty) ∧ w' = w := fun w h => by have := tkEnd_c h; rw [hf] at this; simpa using this
          have CR : ∀ w, DRS w gd S t → Calls Tryd.prog 8 #[pt gd] w fun e w' => e = .returned (.string (txt t.l)) ∧ ∃ n, w' = w.drewN n := fun w h => rtRest_c h
          obtain ⟨N, hN⟩ : ∃ N, t.l.length = N := ⟨_, rfl⟩
          obtain ⟨y, hyy⟩ : ∃ y, t.l.isEmpty = y := ⟨_, rfl⟩
          obtain ⟨B, hB⟩ : ∃ B, txt t.l = B := ⟨_, rfl⟩
          rw [hN] at e5
          simp only [hN] at CL
          simp only [hyy] at CE
          simp only [hB] at CR
          rw [hB, hyy] at hy
          rw [hB] at e5
          have CL := Lib.hid CL
          have CO := Lib.hid CO
          have CE := Lib.hid CE
          have CR := Lib.hid CR
          clear hf hN hyy hB
          go_wp2_with fail
          refine wp_region_held_drew (S := fun w' => w'.cell? ⟨b, off + k * 2, none⟩ = some (.int .u8 d) ∧ w'.cell? ⟨b, off + k * 2 + 1, none⟩ = some (.string X)) (by kernel_rfl) ⟨c0, c1⟩ (fun hHeld => ?_)
          refine wpAnyH_take (i := 0) (v := ?_) rfl (by kernel_rfl) (by kernel_rfl) (by kernel_rfl) (fun _ _ _ h => h) (Or.inl ⟨by rfl, ?_⟩) hHeld ?_
          rotate_left
          · (intro w hSw; (try dsimp only at hSw); go_simp; try with_reducible rfl)
          try simp only [Act.put, List.setIfInBounds_toArray, List.set_cons_zero, List.set_cons_succ]
          refine wpAnyH_take (i := 1) (v := ?_) rfl (by kernel_rfl) (by kernel_rfl) (by kernel_rfl) (fun _ _ _ h => h) (Or.inl ⟨by rfl, ?_⟩) hHeld ?_
          rotate_left
          · (intro w hSw; (try dsimp only at hSw); go_simp; try with_reducible rfl)
          try simp only [Act.put, List.setIfInBounds_toArray, List.set_cons_zero, List.set_cons_succ]
          refine wpAnyH_take (i := 2) (v := ?_) rfl (by kernel_rfl) (by kernel_rfl) (by kernel_rfl) (fun _ _ _ h => h) (Or.inl ⟨by rfl, ?_⟩) hHeld ?_
          rotate_left
          · (intro w hSw; (try dsimp only at hSw); go_simp; try with_reducible rfl)
          try simp only [Act.put, List.setIfInBounds_toArray, List.set_cons_zero, List.set_cons_succ]
          refine wpAnyH_take (i := 3) (v := ?_) rfl (by kernel_rfl) (by kernel_rfl) (by kernel_rfl) (fun _ _ _ h => h) (Or.inl ⟨by rfl, ?_⟩) hHeld ?_
          rotate_left
          · (intro w hSw; (try dsimp only at hSw); go_simp; try with_reducible rfl)
          try simp only [Act.put, List.setIfInBounds_toArray, List.set_cons_zero, List.set_cons_succ]
          refine wpAnyH_take (i := 4) (v := ?_) rfl (by kernel_rfl) (by kernel_rfl) (by kernel_rfl) (fun _ _ _ h => h) (Or.inl ⟨by rfl, ?_⟩) hHeld ?_
          rotate_left
          · (intro w hSw; (try dsimp only at hSw); go_simp; try with_reducible rfl)
          try simp only [Act.put, List.setIfInBounds_toArray, List.set_cons_zero, List.set_cons_succ]
          refine wpAnyH_take (i := 5) (v := ?_) rfl (by kernel_rfl) (by kernel_rfl) (by kernel_rfl) (fun _ _ _ h => h) (Or.inl ⟨by rfl, ?_⟩) hHeld ?_
          rotate_left
          · (intro w hSw; (try dsimp only at hSw); go_simp; try with_reducible rfl)
          try simp only [Act.put, List.setIfInBounds_toArray, List.set_cons_zero, List.set_cons_succ]
          refine wpAnyH_ready (rs := [6]) (by kernel_rfl) (by simp) ?_
          refine AllReadyH.cons rfl (fun K hK => ?_) AllReadyH.nil
          go_simp
          refine CA.out.mono ?_
          rintro e w2 ⟨rfl, hT2'⟩
          obtain ⟨hT2, hs2, d2, dlt⟩ := HK.out w2 hT2'
          have HT2 := Lib.hid hT2
          have CL2 := Lib.hid (fun n => CL.out (w2.drewN n) hT2.p)
          have CO2 := Lib.hid (fun n => CO.out (w2.drewN n) hT2.p)
          have CE2 := Lib.hid (fun n => CE.out (w2.drewN n) hT2.p)
          have CR2 := Lib.hid (fun n => CR.out (w2.drewN n) hT2.d)
          refine hK.out _ _ hs2 (fun _ => ?_)
          clear hK K hT2 hT2' CA CL CO CE CR HK
          try simp only [Act.put, List.setIfInBounds_toArray, List.set_cons_zero, List.set_cons_succ]
          refine wpAnyH_quiet_rest (C := fun w' => ∃ n, w' = w2.drewN n) 7 (List.drop 7 (Array.toList _)) (by kernel_rfl) (fun j => by rw [List.getElem?_drop, Array.getElem?_toList]) (by kernel_rfl) ⟨0, rfl⟩ ?_ ?_
          · rintro w ⟨n, rfl⟩; exact hs2
          simp only [List.drop_succ_cons, List.drop_zero]
          repeat (quiet_step (first | (go_at_call 7; exact Calls.quiet_of_same (CL2.out _)) | (go_at_call 9; exact Calls.quiet_of_same (CO2.out _)) | (go_at_call 10; exact Calls.quiet_of_same (CE2.out _)) | (go_at_call 8; exact Calls.quiet_of (CR2.out _))))
          refine wpQuiet_nil ?_
          intro _ hw'
          obtain ⟨nq, hw''⟩ := hw'
          subst hw''
          have HTn : Hid (Two D S W (w2.drewN nq) D gd t) := ⟨HT2.out.p, HT2.out.d, below_drewN (HT.out.b.trans HT2.out.b) _, HT2.out.e⟩
          clear HT2 hs2 d2 dlt CL2 CO2 CE2 CR2
          go_wp2_with fail
          go_roundw
          case rel => exact ⟨k + 1, t, by omega, by go_num, HTn.out⟩
          case measure => simp [intOf]; omega
    · obtain rfl : k = Q := by omega
      have hq : ¬ (k : Int) < k := by omega
      have CW := Lib.hid (awake12_c wr HT.out.e.2.2)
      go_wp2_with fail
      refine CW.out.mono ?_
      rintro e w8 ⟨rfl, b8⟩
      have B8 : Hid (Below D W w8) := HT.out.b.trans (b8.mono hDr)
      clear b8
      go_wp2_with fail
      go_ret
      exact ⟨rfl, B8.out⟩
end Go.Proofs.YtidhnhjhdmfpiaaDoor

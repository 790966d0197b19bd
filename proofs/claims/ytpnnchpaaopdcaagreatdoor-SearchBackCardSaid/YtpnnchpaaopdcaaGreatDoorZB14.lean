/-
  strings.Replacer: what builds the bytes' replacer: contract.
-/
import Derived.Test.YtpnnchpaaopdcaaGreatDoorZB04
import Derived.Test.YtpnnchpaaopdcaaGreatDoorZB13
import Derived.WalkSpells
set_option linter.unusedVariables false
set_option linter.unusedSimpArgs false
namespace Go.Proofs.YtpnnchpaaopdcaaGreatDoor
open Go Go.RowKit
variable {W : World} {g q cp : Nat}
def rp0 : Nat → Value := fun _ => nilS
def St0 (w : World) (B rb : Nat) (wr : World) : Prop := (∃ tr, BsAt wr B rb rp0 tr []) ∧ Below B w wr ∧ B ≤ rb
def St1 (w : World) (B rb : Nat) (wr : World) : Prop := (∃ tr b1 c1, BsAt wr B rb (putF rp0 34 (.slice (some ⟨b1, 0, none⟩) 2 c1)) tr [.string sO2] ∧ BytesAt wr b1 [92, 34] ∧ B ≤ b1) ∧ Below B w wr ∧ B ≤ rb
def BsDone (B rb : Nat) (wr : World) : Prop := B ≤ rb ∧ ∃ tr b1 c1 b2 c2, BsAt wr B rb (putF (putF rp0 34 (.slice (some ⟨b1, 0, none⟩) 2 c1)) 92 (.slice (some ⟨b2, 0, none⟩) 2 c2)) tr [.string sO2, .string sO1] ∧ BytesAt wr b1 [92, 34] ∧ BytesAt wr b2 [92, 92] ∧ B ≤ b1 ∧ B ≤ b2
def St2 (w : World) (B rb : Nat) (wr : World) : Prop := BsDone B rb wr ∧ Below B w wr
theorem bytes_ne {w : World} {b rb : Nat} {l : List UInt8} {A : Array Value} (h : BytesAt w b l) (hc : Cells w rb 281 A) : b ≠ rb := by
  obtain ⟨cur, hcur, _⟩ := h
  exact ne_blocks hcur hc (by decide)
theorem bytes_keep {w w' : World} {b : Nat} {l : List UInt8} (h : BytesAt w b l) (hk : w'.heap[b]? = w.heap[b]?) : BytesAt w' b l := by
  obtain ⟨cur, hcur, h2⟩ := h
  exact ⟨cur, hk.trans hcur, h2⟩
theorem bs_old {f : Nat → Value} {v : Value} : bsZ.size = (rplA f v).size := by unfold bsZ rplA; simp
def made2 : Array Value := #[.string ⟨#[]⟩, .string ⟨#[]⟩]
theorem run_make2 (w : World) : (Instr.makeSlice 92 (.int .i64 0) (.int .i64 2)).run Tryz.prog w = .ok (.slice (some ⟨w.heap.size, 0, none⟩) 0 2) (w.alloc (.cells made2 9)) := by
  obtain ⟨i0, hi0, hz0, hz1, hz2⟩ := info_parts Tryz.infoStr
  have h := run_make (P := Tryz.prog) w 92 9 i0 _ Tryz.underlying92 hi0 hz0 .i64 .i64 (0 : Int) (2 : Int) (by omega) (by omega) (by rw [hz2]; omega) (by omega)
  simp only [hz1] at h
  rw [show madeCells (Value.string ⟨#[]⟩).cells (Int.toNat 2 * 1) = made2 by kernel_rfl] at h
  exact h
theorem own_made2 (w : World) : (w.alloc (.cells made2 9)).ownsRow w.heap.size 9 1 (.slice (some ⟨w.heap.size, 0, none⟩) 0 2) 0 [] :=
  ⟨rfl, .inr ⟨w.heap.size, 2, made2, rfl, Nat.le_refl _, heap_alloc_new w _, by omega, by unfold maxLen; omega, rfl, rfl⟩⟩
set_option maxRecDepth 100000 in
set_option maxHeartbeats 8000000 in
theorem repBuild_c (hr : RepAt W g 0 1 .nilIface (.slice (some ⟨q, 0, none⟩) 4 cp)) (ho : OldAt W q) :
    Calls Tryz.prog 227 #[pt0 g] W fun e w' => ∃ rb, e = .returned (.iface 282 (pt0 rb)) ∧ BsDone W.heap.size rb w' ∧ Below W.heap.size W w' := by
  obtain ⟨iS, hiS, hS0, hS1, hS2⟩ := info_parts Tryz.infoStr
  obtain ⟨c0, c1, c3, c4, hb, hf⟩ := hr.facts
  obtain ⟨s0, s1, s2, s3, hq⟩ := ho
  have eO1 : (sO1[0]'(by decide)).toNat = 92 := by rfl
  have eO2 : (sO2[0]'(by decide)).toNat = 34 := by rfl
  have hmk := run_make2 W
  have HA : Hid (∀ (o : Oper), o.op = .alloc 281 → ∀ ρ : Operand → Value, (execOp ρ o).run Tryz.prog (W.alloc (.cells made2 9)) = .ok (.value (.pointer (some ⟨W.heap.size + 1, 0, none⟩))) ((W.alloc (.cells made2 9)).alloc (.cells bsZ 281))) := fun o h ρ => by
    have := alloc_bs o h ρ (W.alloc (.cells made2 9))
    rw [World.size_alloc] at this
    exact this
  have HT : Hid (((W.alloc (.cells made2 9)).alloc (.cells bsZ 281)).heap[W.heap.size + 1]? = some (.cells bsZ 281 (0, 0))) := by
    have := heap_alloc_new (W.alloc (.cells made2 9)) (.cells bsZ 281)
    rw [World.size_alloc] at this
    exact this
  clear c0 c1 c3 hf hr
  go_enter Tryz.func227, Tryz.ntmps227
  go_wp2_with fail
  go_loop [4, 5] (fun bv iv => (iv = .int .i64 0 ∧ bv = .bool true) ∨ (iv = .int .i64 2 ∧ bv = .bool false) ∨ (iv = .int .i64 4 ∧ bv = .bool false)) (fun _ iv => 4 - (intOf iv).toNat)
  case atStart => exact .inl ⟨rfl, rfl⟩
  case round =>
    rcases hrel with ⟨rfl, rfl⟩ | ⟨rfl, rfl⟩ | ⟨rfl, rfl⟩
    · go_wp2_with fail
      go_round
      case rel => exact .inr (.inl ⟨rfl, rfl⟩)
      case measure => simp [intOf]
    · go_wp2_with fail
      go_round
      case rel => exact .inr (.inr ⟨rfl, rfl⟩)
      case measure => simp [intOf]
    · go_wp2_with (first | (refine wpList_build_as rfl 281 #[(1, .tmp 94)] rfl (rplA rp0 (.slice (some ⟨W.heap.size, 0, none⟩) 0 2)) (built_bs (some ⟨W.heap.size, 0, none⟩) 0 2) ?_) | (refine Go.Great.wpList_allocTo rfl (some 11) rfl (.pointer (some ⟨W.heap.size + 1, 0, none⟩)) (.cells bsZ 281) (HA.out _ rfl _) ?_) | (refine wpList_store_row rfl 281 (.tmp 11) (.tmp 95) rfl (W.heap.size + 1) (rplA rp0 (.slice (some ⟨W.heap.size, 0, none⟩) 0 2)) rfl rfl 281 bsZ HT.out size_bs bs_old (one_bs _ _ _) ?_))
      obtain ⟨rb, hrb⟩ : ∃ rb, W.heap.size + 1 = rb := ⟨_, rfl⟩
      obtain ⟨w1, hw1⟩ : ∃ w1, ((W.alloc (.cells made2 9)).alloc (.cells bsZ 281)).setRow (W.heap.size + 1) (rplA rp0 (.slice (some ⟨W.heap.size, 0, none⟩) 0 2)) = w1 := ⟨_, rfl⟩
      have hw2 : w1 = (W.alloc (.cells made2 9)).alloc (.cells (rplA rp0 (.slice (some ⟨W.heap.size, 0, none⟩) 0 2)) 281) := by
        rw [← hw1, ← World.size_alloc W (.cells made2 9)]
        exact World.setRow_alloc_new _ _ _ _
      have hS : Hid (St0 W W.heap.size rb w1) := by
        refine ⟨⟨.slice (some ⟨W.heap.size, 0, none⟩) 0 2, ?_, ?_⟩, ?_, by omega⟩
        · have := heap_alloc_new (W.alloc (.cells made2 9)) (.cells (rplA rp0 (.slice (some ⟨W.heap.size, 0, none⟩) 0 2)) 281)
          rw [World.size_alloc, hrb, ← hw2] at this
          exact this
        · rw [hw2]; exact (own_made2 W).alloc _
        · rw [hw2]; exact ((Below.refl _ W).alloc (Nat.le_refl _) _).alloc (by simp) _
      rw [hw1, hrb]
      clear hw1 hw2 HT HA hmk
      go_loopw [12, 13, 14] (fun iv _ _ wr => (iv = .int .i64 2 ∧ Hid (St0 W W.heap.size rb wr)) ∨ (iv = .int .i64 0 ∧ Hid (St1 W W.heap.size rb wr)) ∨ (iv = .int .i64 (-2) ∧ Hid (St2 W W.heap.size rb wr))) (fun iv _ _ _ => (intOf iv + 2).toNat)
      case atStart => exact .inl ⟨rfl, hS.out⟩
      case round =>
        rcases hrel with ⟨rfl, HS⟩ | ⟨rfl, HS⟩ | ⟨rfl, HS⟩
        · obtain ⟨⟨tr, hbs⟩, hbw, hbr⟩ := HS.out
          have hB : W.heap.size ≤ wr.heap.size := hbw.size
          have hcell : ∀ i, wr.cell? ⟨q, i, none⟩ = W.cell? ⟨q, i, none⟩ := fun i => hbw.cell (p := ⟨q, i, none⟩) hq
          have t2 := (hcell 2).trans s2
          have t3 := (hcell 3).trans s3
          have kO : wr.cell? ⟨rb, 34, none⟩ = some (Value.slice none 0 0) := hbs.c.cell (rplA_at _ _ (by decide))
          have k256x : wr.cell? ⟨rb, 256, none⟩ = some tr := hbs.c.cell (rplA_end _ _)
          have krb := hbs.c.lt
          have ho := hbs.o
          have keq : (binOp .eql 97 (.slice none 0 0) (.slice none 0 0)).run Tryz.prog wr = .ok (.bool true) wr := run_eql_nil_slice wr 97 5 none 0 0 0 0 Tryz.underlying97
          have kc := conv1 wr 34 34 rfl
          obtain ⟨ta, tc, htr⟩ := own_form ho
          have ho : wr.ownsRow W.heap.size 9 1 (.slice ta 0 tc) 0 [] := by rw [← show tr = .slice ta 0 tc from htr]; exact ho
          have k256 : wr.cell? ⟨rb, 256, none⟩ = some (.slice ta 0 tc) := by rw [← show tr = .slice ta 0 tc from htr]; exact k256x
          have HO := Lib.hid ho
          have HC := Lib.hid hbs.c
          have HBW := Lib.hid hbw
          clear hbs ho hbw htr hcell k256x
          go_wp2_with (at_builtin; refine wpList_append_own _ rfl (.tmp 119) (.tmp 123) 92 rfl W.heap.size 9 iS (.string ⟨#[]⟩) 1 16 Tryz.underlying92 hiS hS0 hS1 hS2 rfl (by decide) _ _ _ rfl ((HO.out.alloc _).alloc _) ⟨wr.heap.size + 1, 0, none⟩ 1 1 [.string ⟨#[34]⟩] rfl rfl (by have := cell_one_new (wr.alloc (.cells #[.int .u8 34] 5)) (.string ⟨#[34]⟩) 9; rw [World.size_alloc] at this; exact this) (fun x hx => by simp at hx; subst hx; rfl) (by unfold maxLen; simp) (by simp) (by simp; omega) ?_)
          intro v' w4 hown4 hgrow4 _
          have hrow : ∀ k, (Value.slice ta 0 tc).ownBlock = some k → k ≠ rb := fun k hk => by
            obtain ⟨cur, hcur⟩ := own_block HO.out hk
            exact ne_blocks hcur HC.out (by decide)
          have hold4 : ∀ k, k < wr.heap.size → (Value.slice ta 0 tc).ownBlock ≠ some k → w4.heap[k]? = wr.heap[k]? := fun k hk hn =>
            (hgrow4.block k (by simp; omega) (fun e => hn e.symm)).trans ((Below.heap_alloc _ _ k (by simp; omega)).trans (Below.heap_alloc _ _ k hk))
          have hc4 : Cells w4 rb 281 (rplA (rp0) tr) := HC.out.later (hold4 rb krb (fun e => hrow rb e rfl))
          have hb4 : Below W.heap.size W w4 := Below.grown ((HBW.out.alloc hB _).alloc (by simp; omega) _) hgrow4 (by simp; omega) (fun j hj => (HO.out.lt j hj).1)
          have hsz4 : W.heap.size ≤ w4.heap.size := hb4.size
          obtain ⟨w6, cp6, hcv, hc6, hb6, ho6, hby6, hlt6, hfz6, hk6⟩ := keep34 hc4 hown4 hbr
          obtain ⟨ad4, cp4, hv4⟩ := own_form hown4
          have m256 : w4.cell? ⟨rb, 256, none⟩ = some tr := hc4.cell (rplA_end _ _)
          have m257 := hc4.frozen 256
          have m258 := hc4.lt
          have n34 : w6.cell? ⟨rb, 34, none⟩ = some (Value.slice none 0 0) := hc6.cell (rplA_at _ _ (by decide))
          have n35 := hfz6 34
          have hc7 := hc6.set 34 (.slice (some ⟨w4.heap.size, 0, none⟩) 2 cp6)
          rw [rplA_set _ _ _ (by decide)] at hc7
          obtain ⟨w7, hw7⟩ : ∃ w7, w6.setCell ⟨rb, 34, none⟩ (.slice (some ⟨w4.heap.size, 0, none⟩) 2 cp6) = w7 := ⟨_, rfl⟩
          rw [hw7] at hc7
          have hk7 : ∀ k, k ≠ rb → w7.heap[k]? = w6.heap[k]? := fun k hk => by rw [← hw7]; exact Below.heap_setCell w6 ⟨rb, 34, none⟩ _ k hk
          have hs7 : w7.heap.size = w6.heap.size := by rw [← hw7]; exact size_setCell _ _ _
          have hb7 : Below W.heap.size W w7 := (hb4.trans hb6).trans ⟨by rw [← hw7]; rfl, by rw [← hw7]; rfl, by rw [← hw7]; rfl, by rw [hs7]; exact Nat.le_refl _, fun k hk => hk7 k (by omega)⟩
          have ho7 : w7.ownsRow W.heap.size 9 1 v' (0 + 1) ([] ++ [.string ⟨#[34]⟩]) := own_keep ho6 fun k hk => hk7 k (by
            obtain ⟨cur, hcur⟩ := own_block ho6 hk
            exact ne_blocks hcur hc6 (by decide))
          have hby7 : BytesAt w7 w4.heap.size [92, 34] := bytes_keep hby6 (hk7 _ (by omega))
          have HS2 : Hid (St1 W W.heap.size rb w7) := ⟨⟨v', w4.heap.size, cp6, ⟨hc7, ho7⟩, hby7, hsz4⟩, hb7, hbr⟩
          have HW7 := Lib.hid hw7
          clear hc4 hb4 hc6 hb6 ho6 hby6 hfz6 hk6 hc7 hk7 hs7 hb7 ho7 hby7 hw7 hrow hold4 hgrow4
          subst hv4
          clear hown4
          go_wp2_with fail
          rw [HW7.out]
          go_wp2_with fail
          go_roundw
          case rel => exact .inr (.inl ⟨rfl, HS2.out⟩)
          case measure => simp [intOf]
        · obtain ⟨⟨tr, b1, c1, hbs, hby, hbB⟩, hbw, hbr⟩ := HS.out
          have hB : W.heap.size ≤ wr.heap.size := hbw.size
          have hcell : ∀ i, wr.cell? ⟨q, i, none⟩ = W.cell? ⟨q, i, none⟩ := fun i => hbw.cell (p := ⟨q, i, none⟩) hq
          have t0 := (hcell 0).trans s0
          have t1 := (hcell 1).trans s1
          have kO : wr.cell? ⟨rb, 92, none⟩ = some (Value.slice none 0 0) := hbs.c.cell (rplA_at _ _ (by decide))
          have k256x : wr.cell? ⟨rb, 256, none⟩ = some tr := hbs.c.cell (rplA_end _ _)
          have krb := hbs.c.lt
          have ho := hbs.o
          have keq : (binOp .eql 97 (.slice none 0 0) (.slice none 0 0)).run Tryz.prog wr = .ok (.bool true) wr := run_eql_nil_slice wr 97 5 none 0 0 0 0 Tryz.underlying97
          have kc := conv1 wr 92 92 rfl
          obtain ⟨ta, tc, htr⟩ := own_form ho
          have ho : wr.ownsRow W.heap.size 9 1 (.slice ta 1 tc) 1 [.string sO2] := by rw [← show tr = .slice ta 1 tc from htr]; exact ho
          have k256 : wr.cell? ⟨rb, 256, none⟩ = some (.slice ta 1 tc) := by rw [← show tr = .slice ta 1 tc from htr]; exact k256x
          have HO := Lib.hid ho
          have HC := Lib.hid hbs.c
          have HBW := Lib.hid hbw
          have HBY := Lib.hid hby
          clear hbs ho hbw htr hcell k256x
          go_wp2_with (at_builtin; refine wpList_append_own _ rfl (.tmp 119) (.tmp 123) 92 rfl W.heap.size 9 iS (.string ⟨#[]⟩) 1 16 Tryz.underlying92 hiS hS0 hS1 hS2 rfl (by decide) _ _ _ rfl ((HO.out.alloc _).alloc _) ⟨wr.heap.size + 1, 0, none⟩ 1 1 [.string ⟨#[92]⟩] rfl rfl (by have := cell_one_new (wr.alloc (.cells #[.int .u8 92] 5)) (.string ⟨#[92]⟩) 9; rw [World.size_alloc] at this; exact this) (fun x hx => by simp at hx; subst hx; rfl) (by unfold maxLen; simp) (by simp) (by simp; omega) ?_)
          intro v' w4 hown4 hgrow4 _
          have hrow : ∀ k, (Value.slice ta 1 tc).ownBlock = some k → k ≠ rb := fun k hk => by
            obtain ⟨cur, hcur⟩ := own_block HO.out hk
            exact ne_blocks hcur HC.out (by decide)
          have hold4 : ∀ k, k < wr.heap.size → (Value.slice ta 1 tc).ownBlock ≠ some k → w4.heap[k]? = wr.heap[k]? := fun k hk hn =>
            (hgrow4.block k (by simp; omega) (fun e => hn e.symm)).trans ((Below.heap_alloc _ _ k (by simp; omega)).trans (Below.heap_alloc _ _ k hk))
          have hc4 : Cells w4 rb 281 (rplA (putF rp0 34 (.slice (some ⟨b1, 0, none⟩) 2 c1)) tr) := HC.out.later (hold4 rb krb (fun e => hrow rb e rfl))
          have hb4 : Below W.heap.size W w4 := Below.grown ((HBW.out.alloc hB _).alloc (by simp; omega) _) hgrow4 (by simp; omega) (fun j hj => (HO.out.lt j hj).1)
          have hsz4 : W.heap.size ≤ w4.heap.size := hb4.size
          obtain ⟨w6, cp6, hcv, hc6, hb6, ho6, hby6, hlt6, hfz6, hk6⟩ := keep92 hc4 hown4 hbr
          obtain ⟨ad4, cp4, hv4⟩ := own_form hown4
          have m256 : w4.cell? ⟨rb, 256, none⟩ = some tr := hc4.cell (rplA_end _ _)
          have m257 := hc4.frozen 256
          have m258 := hc4.lt
          have n34 : w6.cell? ⟨rb, 92, none⟩ = some (Value.slice none 0 0) := hc6.cell (rplA_at _ _ (by decide))
          have n35 := hfz6 92
          have hc7 := hc6.set 92 (.slice (some ⟨w4.heap.size, 0, none⟩) 2 cp6)
          rw [rplA_set _ _ _ (by decide)] at hc7
          obtain ⟨w7, hw7⟩ : ∃ w7, w6.setCell ⟨rb, 92, none⟩ (.slice (some ⟨w4.heap.size, 0, none⟩) 2 cp6) = w7 := ⟨_, rfl⟩
          rw [hw7] at hc7
          have hk7 : ∀ k, k ≠ rb → w7.heap[k]? = w6.heap[k]? := fun k hk => by rw [← hw7]; exact Below.heap_setCell w6 ⟨rb, 92, none⟩ _ k hk
          have hs7 : w7.heap.size = w6.heap.size := by rw [← hw7]; exact size_setCell _ _ _
          have hb7 : Below W.heap.size W w7 := (hb4.trans hb6).trans ⟨by rw [← hw7]; rfl, by rw [← hw7]; rfl, by rw [← hw7]; rfl, by rw [hs7]; exact Nat.le_refl _, fun k hk => hk7 k (by omega)⟩
          have ho7 : w7.ownsRow W.heap.size 9 1 v' (1 + 1) ([.string sO2] ++ [.string ⟨#[92]⟩]) := own_keep ho6 fun k hk => hk7 k (by
            obtain ⟨cur, hcur⟩ := own_block ho6 hk
            exact ne_blocks hcur hc6 (by decide))
          have hby7 : BytesAt w7 w4.heap.size [92, 92] := bytes_keep hby6 (hk7 _ (by omega))
          have hb1lt : b1 < wr.heap.size := HBY.out.lt
          have hb1row : (Value.slice ta 1 tc).ownBlock ≠ some b1 := fun e => by
            obtain ⟨cur, hcur⟩ := own_block HO.out e
            obtain ⟨cur2, hcur2, _⟩ := HBY.out
            exact ne_blocks hcur hcur2 (by decide) rfl
          have hb1rb : b1 ≠ rb := bytes_ne HBY.out HC.out
          have hb14 := hold4 b1 hb1lt hb1row
          have hb1s : b1 < w4.heap.size := by
            have := bytes_keep HBY.out hb14
            exact this.lt
          have hby1 : BytesAt w7 b1 [92, 34] := bytes_keep HBY.out ((hk7 b1 hb1rb).trans ((hk6 b1 hb1s hb1rb).trans hb14))
          have HS2 : Hid (St2 W W.heap.size rb w7) := ⟨⟨hbr, v', b1, c1, w4.heap.size, cp6, ⟨hc7, ho7⟩, hby1, hby7, hbB, hsz4⟩, hb7⟩
          have HW7 := Lib.hid hw7
          clear hc4 hb4 hc6 hb6 ho6 hby6 hfz6 hk6 hc7 hk7 hs7 hb7 ho7 hby7 hw7 hrow hold4 hgrow4 hb14 hby1
          subst hv4
          clear hown4
          go_wp2_with fail
          rw [HW7.out]
          go_wp2_with fail
          go_roundw
          case rel => exact .inr (.inr ⟨rfl, HS2.out⟩)
          case measure => simp [intOf]
        · go_wp2_with fail
          go_ret
          exact ⟨rb, rfl, HS.out.1, HS.out.2⟩
end Go.Proofs.YtpnnchpaaopdcaaGreatDoor

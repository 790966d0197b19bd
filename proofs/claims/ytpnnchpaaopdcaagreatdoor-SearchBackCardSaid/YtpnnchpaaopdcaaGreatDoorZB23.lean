/-
  The law's Back of a key: contract. MADE by wip/tools/mkBk.py.
-/
import Derived.Test.YtpnnchpaaopdcaaGreatDoorZB04
import Derived.Test.YtpnnchpaaopdcaaGreatDoorZB20
import Derived.Deep.RegionLaw
import Derived.Deep.CutBlock
set_option linter.unusedVariables false
set_option linter.unusedSimpArgs false
namespace Go.Proofs.YtpnnchpaaopdcaaGreatDoor
open Go Go.RowKit
variable {W : World}
set_option maxRecDepth 100000 in
set_option maxHeartbeats 4000000 in
theorem back14_step (kind : Int) (flag : Nat) (set : List (Nat × Nat)) (n : Nat) (s : List UInt8) (kids : List KT) (sp : Option Addr) (scap : Nat) (kp : Option Addr) (kcap : Nat)
    (ih : ∀ x ∈ kids, ∀ W, KeyC W x → Calls Tryz.prog 29 #[x.val] W (OwnDoes W x)) (hS : set.length ≤ 5000 ∧ kids.length ≤ 5000) (W : World) (hK : KeyC W (.mk kind flag set n s kids sp scap kp kcap)) :
    Calls Tryz.prog 29 #[(KT.mk kind flag set n s kids sp scap kp kcap).val] W (OwnDoes W (.mk kind flag set n s kids sp scap kp kcap)) := by
  obtain ⟨hkids, hkm, hfl, hn9, hsl, hsm, hpairs⟩ := hK.kids
  have HK := Lib.hid hK
  have HIH := Lib.hid ih
  show Calls Tryz.prog 29 #[.agg #[.int .i64 kind, .int .u8 flag, .slice sp set.length scap, .int .u32 n, .string (txt s), .slice kp kids.length kcap]] W _
  have hM9 : set.length ≤ 5000 := hS.1
  have HPA := Lib.hid (fun w (hb : Below W.heap.size W w) => PairsAt.below hpairs hb)
  obtain ⟨X, hX⟩ : ∃ X, txt s = X := ⟨_, rfl⟩
  obtain ⟨M, hM⟩ : ∃ M, set.length = M := ⟨_, rfl⟩
  obtain ⟨N, hN⟩ : ∃ N, kids.length = N := ⟨_, rfl⟩
  rw [hX, hM, hN]
  rw [hM] at hM9
  have hN9 : N ≤ 5000 := by rw [← hN]; exact hS.2
  have HX := Lib.hid hX
  have HM := Lib.hid hM
  have HN := Lib.hid hN
  have HKids := Lib.hid hkids
  obtain ⟨R, hR⟩ : ∃ R, OwnDoes W (.mk kind flag set n s kids sp scap kp kcap) = R := ⟨_, rfl⟩
  rw [hR]
  have HR := Lib.hid hR
  obtain ⟨w0, hw0⟩ : ∃ w0, (W.alloc (.cells #[.int .i64 kind, .int .u8 flag, .slice sp M scap, .int .u32 n, .string X, .slice kp N kcap] 37)).alloc (.cells #[.int .i64 0, .int .u8 0, .slice none 0 0, .int .u32 0, .string ⟨#[]⟩, .slice none 0 0] 26) = w0 := ⟨_, rfl⟩
  have hb0 : Below W.heap.size W w0 := by rw [← hw0]; exact ((Below.refl _ W).alloc (Nat.le_refl _) _).alloc (by simp) _
  have hs0 : w0.heap.size = W.heap.size + 2 := by rw [← hw0]; simp
  have hx0 : Cells w0 W.heap.size 37 #[.int .i64 kind, .int .u8 flag, .slice sp M scap, .int .u32 n, .string X, .slice kp N kcap] := by
    rw [← hw0]
    show _ = _
    rw [Below.heap_alloc _ _ _ (by simp)]
    exact heap_alloc_new W _
  have hr0 : Cells w0 (W.heap.size + 1) 26 #[.int .i64 0, .int .u8 0, .slice none 0 0, .int .u32 0, .string ⟨#[]⟩, .slice none 0 0] := by
    rw [← hw0]
    have h := heap_alloc_new (W.alloc (.cells #[.int .i64 kind, .int .u8 flag, .slice sp M scap, .int .u32 n, .string X, .slice kp N kcap] 37)) (.cells #[.int .i64 0, .int .u8 0, .slice none 0 0, .int .u32 0, .string ⟨#[]⟩, .slice none 0 0] 26)
    rw [World.size_alloc] at h
    exact h
  have FS : Hid (∀ x, Below w0.heap.size w0 x → x.cell? ⟨W.heap.size, 0, none⟩ = some (.int .i64 kind) ∧ x.cell? ⟨W.heap.size, 1, none⟩ = some (.int .u8 flag) ∧ x.cell? ⟨W.heap.size, 2, none⟩ = some (.slice sp M scap) ∧ x.cell? ⟨W.heap.size, 3, none⟩ = some (.int .u32 n) ∧ x.cell? ⟨W.heap.size, 4, none⟩ = some (.string X)) := fun x hb => by
    have h := Cells.later hx0 (hb.block _ (Cells.lt hx0))
    exact ⟨h.cell (i := 0) rfl, h.cell (i := 1) rfl, h.cell (i := 2) rfl, h.cell (i := 3) rfl, h.cell (i := 4) rfl⟩
  have HB0 := Lib.hid hb0
  have HX0 := Lib.hid hx0
  have HR0 := Lib.hid hr0
  have HS0 := Lib.hid hs0
  have HBr : Hid (Below w0.heap.size w0 w0) := Below.refl _ _
  clear hK ih hS hkids hkm hfl hn9 hsl hsm hpairs hX hM hN hR hb0 hs0 hx0 hr0
  go_enter Tryz.func29, Tryz.ntmps29
  obtain ⟨i0, i1, i2, i3, i4⟩ := FS.out w0 (Below.refl _ _)
  have hwl : W.heap.size < w0.heap.size := by have := HS0.out; omega
  go_upto_block 0 with fail
  clear i0 i1 i2 i3 i4
  obtain ⟨w1, hw1⟩ : ∃ w1, w0.alloc (.cells #[.int .i64 kind, .int .u8 flag, .slice none 0 0, .int .u32 n, .string X, .slice none 0 0] 26) = w1 := ⟨_, rfl⟩
  have HA1 : Hid (BkA W w0 kind flag n 0 N X (set.take 0) w0.heap.size (.slice none 0 0) (.slice none 0 0) w1) := by
    have hb : Below w0.heap.size w0 w1 := by rw [← hw1]; exact (Below.refl _ _).alloc (Nat.le_refl _) _
    exact ⟨by have := HS0.out; omega, by rw [← hw1]; exact heap_alloc_new w0 _, World.ownsRow_nil _ _ _ _, fun b e => by simp [Value.ownBlock] at e, hb⟩
  rw [hw1]
  clear hw1
  go_cut [3, 4] from 6 (fun t3 t4 wx => ∃ T ad cp, t3 = .pointer (some ⟨T, 0, none⟩) ∧ Hid (BkA W w0 kind flag n M N X set T (.slice ad M cp) (.slice none 0 0) wx))
  case first =>
    go_wp2_with fail
    go_loopw [4] (fun v wr => ∃ k : Nat, k ≤ M ∧ v = .int .i64 k ∧ Hid (∃ ad cp, BkA W w0 kind flag n k N X (set.take k) w0.heap.size (.slice ad k cp) (.slice none 0 0) wr)) (fun v _ => M - (intOf v).toNat)
    case atStart => exact ⟨0, by omega, rfl, none, 0, HA1.out⟩
    case round =>
      obtain ⟨k, hk, rfl, HI0⟩ := hrel
      obtain ⟨vad, vcp, hI⟩ := HI0.out
      have HI := Lib.hid hI
      have hTl := hI.ct.lt
      have hWr : Below W.heap.size W wr := HB0.out.trans (hI.below.mono HB0.out.size)
      have hz0 := hI.below.size
      have hax := Cells.later HX0.out (hI.below.block _ (Cells.lt HX0.out))
      have hx2 := hax.cell (i := 2) rfl
      have hxl : W.heap.size < wr.heap.size := hax.lt
      clear HI0 hI hax
      by_cases hlt : k < M
      · obtain ⟨i0, hi0, hz1, hz2, hz3⟩ := info_parts Tryz.infoRRange
        have hkl : k < set.length := by rw [HM.out]; exact hlt
        obtain ⟨r, hr⟩ : ∃ r, set[k]? = some r := ⟨_, List.getElem?_eq_getElem hkl⟩
        have HR9 : Hid (set.take (k + 1) = set.take k ++ [r]) := take_at hr
        obtain ⟨b, off, hsp, hbw, kc0, kc1⟩ := HPA.out W (Below.refl _ _) k r hr
        subst hsp
        have hvlt : ∀ q, (Value.slice vad k vcp).ownBlock = some q → W.heap.size + 2 ≤ q := fun q hq => (HI.out.own.lt q hq).1
        have hfar : (Value.slice vad k vcp).ownBlock ≠ some w0.heap.size := fun e => HI.out.far _ e rfl
        have FS : Hid (∀ x, wr.grownBy x (Value.slice vad k vcp).ownBlock → x.cell? ⟨w0.heap.size, 2, none⟩ = some (.slice vad k vcp) ∧ x.cell? ⟨W.heap.size, 2, none⟩ = some (.slice (some ⟨b, off, none⟩) M scap) ∧ x.cell? ⟨b, off + k * 2, none⟩ = some (.int .u32 r.1) ∧ x.cell? ⟨b, off + k * 2 + 1, none⟩ = some (.int .u32 r.2) ∧ w0.heap.size < x.heap.size ∧ x.frozen? ⟨w0.heap.size, 2, none⟩ = false) := fun x hx => by
          have hT2 := Cells.later HI.out.ct (hx.block _ hTl (fun e => hfar e.symm))
          have hlow : ∀ (B o : Nat) (u : Value), B < W.heap.size + 2 → B < wr.heap.size → wr.cell? ⟨B, o, none⟩ = some u → x.cell? ⟨B, o, none⟩ = some u := fun B o u hB hB2 hu => by
            have h1 := hx.block B hB2 (fun e => by have := hvlt B e.symm; omega)
            simp only [World.cell?, h1] at hu ⊢
            exact hu
          have hup : ∀ (o : Nat) (u : Value), W.cell? ⟨b, o, none⟩ = some u → wr.cell? ⟨b, o, none⟩ = some u := fun o u hu => by rw [hWr.cell (p := ⟨b, o, none⟩) hbw]; exact hu
          exact ⟨hT2.cell (i := 2) rfl, hlow _ _ _ (by omega) (by omega) hx2, hlow _ _ _ (by omega) (by have := hWr.size; omega) (hup _ _ kc0), hlow _ _ _ (by omega) (by have := hWr.size; omega) (hup _ _ kc1), hT2.lt, hT2.frozen 2⟩
        obtain ⟨u0, u1, u2, u3, u4, u5⟩ := FS.out wr (grown_of_below (Below.refl _ _) _)
        obtain ⟨d0, d1, d2, d3, d4, d5⟩ := FS.out wr.drew (grown_drew _ _)
        obtain ⟨g0, g1, g3, g4, g5, g6⟩ := FS.out (wr.drew.alloc (.cells #[.int .u32 r.1, .int .u32 r.2] 115)) (grown_of_below ((Below.refl _ _).drew.alloc (by simp) _) _)
        have hqk : (k : Int) < M := by omega
        have hqk0 : (0 : Int) ≤ k := by omega
        clear hr hkl kc0 kc1 hx2
        go_wp2_with fail
        go_region_law (refine step_append_lies _ (by rfl) (.tmp 23) (.tmp 37) _ (by rfl) (W.heap.size + 2) 115 i0 _ 2 8 Tryz.underlying22 hi0 hz1 hz2 hz3 rfl (by omega) (.slice vad k vcp) k (cellsP (set.take k)) (by rfl) (HI.out.own.drew.alloc _) ⟨wr.heap.size, 0, none⟩ 1 1 [.int .u32 r.1, .int .u32 r.2] (by rfl) (by rfl) (World.news_of_block (cs := #[.int .u32 r.1, .int .u32 r.2]) (t := 115) (fr := (0, 0)) (heap_alloc_new wr.drew _)) (by simp [Value.oneCell']) (by omega) (by unfold maxLen; omega) (by omega) (by simp; omega) (wr.heap.size + 1) (by simp) ?_; intro g2 cap2 w6 hown6 hgrow hat hlt6; have hgr := grown_trans (grown_of_below ((Below.refl _ wr).drew.alloc (by simp) _) _) hgrow; obtain ⟨v0, v1, v2, v3, v4, v5⟩ := FS.out w6 hgr; have HO6 := Lib.hid hown6; have HG6 := Lib.hid hgrow; have HA6 := Lib.hid hat; clear hown6 hgrow hat hgr)
        all_goals
          have HN2 := Lib.hid (BkA.step HS0.out HI.out HR9.out ((Below.refl _ wr).drew.alloc (by simp) _) HO6.out HG6.out (by simpa using HA6.out))
          go_wp2_with fail
          go_roundw
          case rel => exact ⟨k + 1, by omega, by go_num, _, _, HN2.out⟩
          case measure => simp [intOf]; omega
      · obtain rfl : k = M := by omega
        have hq : ¬ (k : Int) < k := by omega
        have HA2 : Hid (BkA W w0 kind flag n k N X set w0.heap.size (.slice vad k vcp) (.slice none 0 0) wr) := by
          have h := HI.out
          rw [List.take_of_length_le (by rw [HM.out]; exact Nat.le_refl _)] at h
          exact h
        go_wp2_with fail
        go_meet
        case rel => exact ⟨_, _, _, rfl, HA2.out⟩
  case rest =>
    obtain ⟨T, ad, cp, rfl, HA⟩ := hcut
    obtain ⟨wz, hwz⟩ : ∃ wz, wc = wz := ⟨_, rfl⟩
    rw [hwz] at HA ⊢
    clear hwz
    obtain ⟨sv, hsv⟩ : ∃ sv, Value.slice ad M cp = sv := ⟨_, rfl⟩
    rw [hsv] at HA
    have HSV := Lib.hid hsv
    clear hsv
    go_wp2_with fail
    go_loopw [5] (fun v wr => ∃ k : Nat, k ≤ N ∧ v = .int .i64 k ∧ Hid (∃ kts v, BkI W w0 kind flag n M N X set T sv kids k kts v wr)) (fun v _ => N - (intOf v).toNat)
    case atStart => exact ⟨0, by omega, rfl, [], .slice none 0 0, HA.out, rfl, World.ownsRow_nil _ _ _ _, fun x hx => by simp at hx, fun x hx => by simp at hx, fun x hx => by simp at hx, rfl, by simp [Value.ownBlock], fun b hb => by simp [Value.ownBlock] at hb⟩
    case round =>
      obtain ⟨k, hk, rfl, HI0⟩ := hrel
      obtain ⟨kts, v, hI⟩ := HI0.out
      have HI := Lib.hid hI
      have hTl := hI.a.ct.lt
      have hx5 := (Cells.later HX0.out (hI.a.below.block _ (Cells.lt HX0.out))).cell (i := 5) rfl
      have hxl : W.heap.size < wr.heap.size := by have := hI.a.below.size; have := HS0.out; omega
      clear HI0 hI
      by_cases hlt : k < N
      · obtain ⟨i0, hi0, hz0, hz1, hz2⟩ := info_parts Tryz.infoRKey9
        have hkl : k < kids.length := by rw [HN.out]; exact hlt
        obtain ⟨kd, hkd⟩ : ∃ kd, kids[k]? = some kd := ⟨_, List.getElem?_eq_getElem hkl⟩
        have hWr : Below W.heap.size W wr := HB0.out.trans (HI.out.a.below.mono HB0.out.size)
        obtain ⟨b, off, hkp, hbw, hcs, hkc⟩ := KidsC.at kids kp 0 k kd (KidsC.below hWr kids kp 0 HKids.out) hkd
        have hbW : b < W.heap.size := by
          obtain ⟨b', off', hkp', hbw', _⟩ := KidsC.at kids kp 0 k kd HKids.out hkd
          rw [hkp] at hkp'; cases hkp'; exact hbw'
        subst hkp
        rw [Nat.zero_add] at hcs
        obtain ⟨vad, vcp, hvv⟩ := own_form HI.out.own
        subst hvv
        obtain ⟨yk, yf, ym, yn, yl, ysp, ykp, ysc, ykc, Y, hv, hc⟩ := kd.form
        have hq1 : ∀ q u, (#[.int .i64 yk, .int .u8 yf, .slice ysp ym ysc, .int .u32 yn, .string Y, .slice ykp yl ykc] : Array Value)[q]? = some u → wr.cell? ⟨b, off + k * 6 + q, none⟩ = some u := fun q u hu => hcs q u (by rw [← hc] at hu; simpa using hu)
        have C := fun w (hb : Below wr.heap.size wr w) => HIH.out kd (List.mem_of_getElem? hkd) w (KeyC.below hb kd hkc)
        rw [hv] at C
        have C := Lib.hid C
        have hTb : W.heap.size + 2 ≤ T := HI.out.a.hT
        have hvlt : ∀ q, (Value.slice vad k vcp).ownBlock = some q → W.heap.size + 2 ≤ q := fun q hq => (HI.out.own.lt q hq).1
        have HGB : Hid (∀ x, wr.grownBy x (Value.slice vad k vcp).ownBlock → x.heap[T]? = wr.heap[T]?) := fun x hx => hx.block T hTl (fun e => HI.out.vT e.symm)
        have FS : Hid (∀ x, wr.grownBy x (Value.slice vad k vcp).ownBlock → x.cell? ⟨T, 5, none⟩ = some (.slice vad k vcp) ∧ x.cell? ⟨W.heap.size, 5, none⟩ = some (.slice (some ⟨b, off, none⟩) N kcap) ∧ x.cell? ⟨b, off + k * 6, none⟩ = some (.int .i64 yk) ∧ x.cell? ⟨b, off + k * 6 + 1, none⟩ = some (.int .u8 yf) ∧ x.cell? ⟨b, off + k * 6 + 2, none⟩ = some (.slice ysp ym ysc) ∧ x.cell? ⟨b, off + k * 6 + 3, none⟩ = some (.int .u32 yn) ∧ x.cell? ⟨b, off + k * 6 + 4, none⟩ = some (.string Y) ∧ x.cell? ⟨b, off + k * 6 + 5, none⟩ = some (.slice ykp yl ykc)) := fun x hx => by
          have hT5 := (Cells.later HI.out.a.ct (HGB.out x hx)).cell (i := 5) rfl
          have hlow : ∀ (B o : Nat) (u : Value), B < W.heap.size + 2 → wr.cell? ⟨B, o, none⟩ = some u → x.cell? ⟨B, o, none⟩ = some u := fun B o u hB hu => by
            have h1 := hx.block B (by omega) (fun e => by have := hvlt B e.symm; omega)
            simp only [World.cell?, h1] at hu ⊢
            exact hu
          exact ⟨hT5, hlow _ _ _ (by omega) hx5, hlow _ _ _ (by omega) (hq1 0 _ rfl), hlow _ _ _ (by omega) (hq1 1 _ rfl), hlow _ _ _ (by omega) (hq1 2 _ rfl), hlow _ _ _ (by omega) (hq1 3 _ rfl), hlow _ _ _ (by omega) (hq1 4 _ rfl), hlow _ _ _ (by omega) (hq1 5 _ rfl)⟩
        have s0 := FS.out wr (grown_of_below (Below.refl _ _) _)
        have s0d := FS.out wr.drew (grown_drew _ _)
        have hqk : (k : Int) < N := by omega
        have hqk0 : (0 : Int) ≤ k := by omega
        have HKD := Lib.hid hkd
        clear hcs hkc hv hc hq1 hkd hx5
        go_wp2_with fail
        obtain ⟨u0, u1, u2, u3, u4, u5, u6, u7⟩ := s0
        obtain ⟨d0, d1, d2, d3, d4, d5, d6, d7⟩ := s0d
        go_region_law ((first
          | (refine step_append_lies _ (by rfl) (.tmp 48) (.tmp 55) _ (by rfl) (W.heap.size + 2) 26 i0 _ 6 88 Tryz.underlyingRKids9 hi0 hz0 hz1 hz2 rfl (by omega) (.slice vad k vcp) k (cellsK kts) (by rfl) (O4.out.alloc _) ⟨w4.heap.size, 0, none⟩ 1 1 [.int .i64 zk, .int .u8 zf, .slice zsp zm zsc, .int .u32 zn, .string Z, .slice zkp zl zkc] (by rfl) (by rfl) (World.news_of_block (cs := #[.int .i64 zk, .int .u8 zf, .slice zsp zm zsc, .int .u32 zn, .string Z, .slice zkp zl zkc]) (t := 26) (fr := (0, 0)) (heap_alloc_new w4 _)) (by simp [Value.oneCell']) (by omega) (by unfold maxLen; omega) (by omega) (by simp; omega) (w4.heap.size + 1) (by simp) ?_; intro g2 cap2 w6 hown6 hgrow hat hlt6; have hgr := grown_trans (grown_of_below (Below.trans HB4.out (((Below.refl _ w4).alloc (Nat.le_refl _) _).mono hz4)) _) hgrow; obtain ⟨v0, v1, v2, v3, v4, v5, v6, v7⟩ := FS.out w6 hgr; have cT := Cells.later HI.out.a.ct (HGB.out w6 hgr); have f5 := cT.frozen 5; have tl := cT.lt; have HO6 := Lib.hid hown6; have HG6 := Lib.hid hgrow; have HA6 := Lib.hid hat; clear hown6 hgrow hat cT hgr)
          | (go_simp; go_at_call 29; refine (C.out wr.drew (Below.refl _ _).drew).mono ?_; rintro e w4 ⟨k2, rfl, hb2, hc2, hi2, hbel⟩; have HB4 : Hid (Below wr.heap.size wr w4) := (Below.refl _ _).drew.trans hbel; obtain ⟨zk, zf, zm, zn, zl, zsp, zkp, zsc, zkc, Z, hv2, hcc⟩ := k2.form; rw [hv2]; have HBK2 := Lib.hid hb2; have HKC2 := Lib.hid hc2; have HKI2 := Lib.hid hi2; have HCC := Lib.hid hcc; have O4 := Lib.hid (own_below HI.out.own HB4.out); have hz4 := HB4.out.size; obtain ⟨e0, e1, e2, e3, e4, e5, e6, e7⟩ := FS.out w4 (grown_of_below HB4.out _); obtain ⟨g0, g1, g3, g4, g5, g6, g7, g8⟩ := FS.out (w4.alloc (.cells #[.int .i64 zk, .int .u8 zf, .slice zsp zm zsc, .int .u32 zn, .string Z, .slice zkp zl zkc] 26)) (grown_trans (grown_of_below HB4.out _) (grown_of_below ((Below.refl _ w4).alloc (Nat.le_refl _) _) _)); clear hb2 hc2 hi2 hbel hv2 hcc)))
        all_goals
          have HN2 := Lib.hid (BkI.step HS0.out HI.out HKD.out HB4.out HBK2.out HKC2.out HKI2.out (congrArg Array.toList HCC.out) HO6.out HG6.out HA6.out)
          go_wp2_with fail
          go_roundw
          case rel => exact ⟨k + 1, by omega, by go_num, _, _, HN2.out⟩
          case measure => simp [intOf]; omega
      · obtain rfl : k = N := by omega
        obtain ⟨vad, vcp, hvv⟩ := own_form HI.out.own
        obtain ⟨sad, scp, hss⟩ := own_form HI.out.a.own
        subst hvv
        have hc := HI.out.a.ct
        rw [hss] at hc
        have hr := Cells.later HR0.out (HI.out.a.below.block _ (Cells.lt HR0.out))
        have HC := Lib.hid hc
        have HRR := Lib.hid hr
        have HSS := Lib.hid hss
        have q0 := hc.cell (i := 0) rfl
        have q1 := hc.cell (i := 1) rfl
        have q2 := hc.cell (i := 2) rfl
        have q3 := hc.cell (i := 3) rfl
        have q4 := hc.cell (i := 4) rfl
        have q5 := hc.cell (i := 5) rfl
        have r0 := hr.cell (i := 0) rfl
        have r1 := hr.cell (i := 1) rfl
        have r2 := hr.cell (i := 2) rfl
        have r3 := hr.cell (i := 3) rfl
        have r4 := hr.cell (i := 4) rfl
        have r5 := hr.cell (i := 5) rfl
        have fr := fun i => hr.frozen i
        have hrl := hr.lt
        have hq : ¬ (k : Int) < k := by omega
        clear hc hr hss
        go_wp2_with fail
        refine bodyPost_ret (results_b14 _ _ (W.heap.size + 1) _ _ _ _ _ _ (Cells.six HRR.out _ _ _ _ _ _) rfl) rfl ?_
        rw [← HR.out]
        obtain ⟨kp', kc', hkv, hkk, hku⟩ := kids_own3 HI.out.own HI.out.len HI.out.keys
        have hop := HI.out.a.own
        rw [← HM.out] at hop
        obtain ⟨sp', sc', hsv', hps, hsu⟩ := own_pairsT hop
        have hsv2 := HSS.out
        have ht9 : ∀ (x : World) (i : Nat) (v : Value), Tk (W.heap.size + 1) wr x → Tk (W.heap.size + 1) wr (x.setCell ⟨W.heap.size + 1, i, none⟩ v) := fun x i v h => h.trans (Tk.set x i v)
        have hall := ht9 _ 5 (.slice vad k vcp) (ht9 _ 4 (.string X) (ht9 _ 3 (.int .u32 n) (ht9 _ 2 (.slice sad M scp) (ht9 _ 1 (.int .u8 flag) (ht9 _ 0 (.int .i64 kind) (Tk.refl _ wr))))))
        have hkeep : KeepUp (W.heap.size + 2) wr _ := KeepUp.tk hall (by omega)
        have hbw : Below W.heap.size W wr := HB0.out.trans (HI.out.a.below.mono HB0.out.size)
        obtain ⟨_, hkm, hfl, hn9, hsl, hsm, _⟩ := HK.out.kids
        have hkl : kts.length = kids.length := by rw [HI.out.len, HN.out]
        refine ⟨KT.mk kind flag set n s kts sp' sc' kp' kc', ?_, ?_, ?_, ?_, hbw.trans ((hall.below (Nat.le_refl _) (by omega)).mono (by omega))⟩
        · rw [hsv2] at hsv'
          have e1 : Value.slice sad M scp = Value.slice sp' set.length sc' := hsv'
          show _ = Ending.returned (.agg #[.int .i64 kind, .int .u8 flag, .slice sp' set.length sc', .int .u32 n, .string (txt s), .slice kp' kts.length kc'])
          rw [← e1, ← hkv, HX.out]
        · rw [bareK, bareK, HI.out.bare, bareL_map, List.take_of_length_le (by rw [HN.out]; exact Nat.le_refl _)]
        · unfold KeyC
          exact ⟨hfl, hn9, ⟨hsl, by rw [hkl]; exact hkm, hsm⟩, hps.keep hsu hkeep, KidsC.keep hkeep kts kp' 0 hkk hku (kidsIn_of kts HI.out.up)⟩
        · unfold KeyIn
          exact ⟨hsu.mono (by omega), hku.mono (by omega), KidsIn.mono (by omega) kts (kidsIn_of kts HI.out.up)⟩
theorem back14_c (k : KT) : ShortN 5000 k → ∀ W, KeyC W k → Calls Tryz.prog 29 #[k.val] W (OwnDoes W k) := by
  refine KT.ind (P := fun k => ShortN 5000 k → ∀ W, KeyC W k → Calls Tryz.prog 29 #[k.val] W (OwnDoes W k)) ?_ k
  intro kind flag set n s kids sp scap kp kcap ih hs W hK
  unfold ShortN at hs
  exact back14_step kind flag set n s kids sp scap kp kcap (fun x hx => ih x hx (ShortNL.mem hs.2.2 x hx)) ⟨hs.1, hs.2.1⟩ W hK
end Go.Proofs.YtpnnchpaaopdcaaGreatDoor

/-
  The law TreeTells, walked.
-/
import Derived.Test.YtbgiehfklfojkaaTrW2
set_option linter.unusedVariables false
set_option linter.unusedSimpArgs false
namespace Go.Proofs.Ytbgiehfklfojkaa
open Go Go.RowKit

variable {W W' : World} {lv : Value} {l : List R7}
set_option maxRecDepth 20000 in
set_option maxHeartbeats 4000000 in
theorem tells7_walk (hl : RecRow W lv l) (h32 : ∀ r, r ∈ l → r.uid < 4294967296) (hs : ∀ r, r ∈ l → r.tx.size ≤ 9223372036854775807) (u : Nat) (hu : u < 4294967296) (K : Int) (hK0 : -9223372036854775808 ≤ K) (hK : K ≤ 9223372036854775807) :
    Calls Try.prog 3 #[lv, .int .u32 u, .int .i64 K] W fun e w' => e = .returned (.bool true) ∧ Below W.heap.size W w' := by
  have hm : ((120 : Nat) : Int) = 120 := rfl
  have CG := great7_c hl 120 (by omega) (by omega) hs
  rw [hm] at CG
  have HCG := Lib.hid CG
  clear CG hm
  cases hgr : greatB l 120 with
  | true =>
    rw [hgr] at HCG
    clear hgr hl h32 hs
    go_enter Try.func3, Try.ntmps3
    go_wp2_with (go_at_call 9; refine HCG.out.mono ?_; rintro e w1 ⟨rfl, hb⟩; have HB := Lib.hid hb; clear hb)
    go_ret
    exact ⟨rfl, HB.out⟩
  | false =>
    rw [hgr] at HCG
    obtain ⟨h120, hup, hnz⟩ := great_small hgr h32
    obtain ⟨m, hmm⟩ : ∃ m, u % 3 = m := ⟨_, rfl⟩
    have hm3 : m < 3 := by omega
    have hmi : (m : Int) = (u : Int) % 3 := by omega
    have n3 : ((3 : Nat) : Int) = 3 := rfl
    have CS := fun w1 (hb : Below W.heap.size W w1) => stand_c (hl.below hb) hup (by omega) 3 m (by omega) (by omega)
    rw [hmi, n3] at CS
    have CRG := Lib.hid (fun w (hb : Below W.heap.size W w) => rGet7_c (hl.below hb) u (by omega))
    have CRR := Lib.hid (fun w (hb : Below W.heap.size W w) => rRank7_c (hl.below hb) u (by omega))
    have CNd := Lib.hid (fun w => tNeed_c u hu w)
    have CRN := Lib.hid (fun w => rNeed7_c u hu w)
    have HUP := Lib.hid hup
    have HL := Lib.hid hl
    obtain ⟨la, lc, hlv⟩ := hl.form
    subst hlv
    obtain ⟨N, hN⟩ : ∃ N, l.length = N := ⟨_, rfl⟩
    rw [hN] at HCG CS CRG CRR HL h120 ⊢
    have HCS := Lib.hid CS
    have HN := Lib.hid hN
    clear hgr hl h32 hs hnz hup hmi hmm hN CS n3
    go_enter Try.func3, Try.ntmps3
    go_upto_region 3 with (go_at_call 9; refine HCG.out.mono ?_; rintro e w1 ⟨rfl, hb⟩; have HB1 := Lib.hid hb; clear hb)
    go_upto_region 4 with (go_at_call 10; refine (HCS.out _ HB1.out).mono ?_; rintro e w2 ⟨sv, ns, r, H, rfl, hsr, hb, his⟩; have HT := Lib.hid (his.tree HUP.out); have HS := Lib.hid hsr; have HB2 := Lib.hid (HB1.out.trans (hb.mono HB1.out.size)); clear hsr hb his)
    have hl1 : l.length ≤ 1000000 := by rw [HN.out]; omega
    have CGt := fun w (hb : Below w2.heap.size w2 w) => tGet_c (HS.out.below hb) HT.out u hu
    have CRk := fun w (hb : Below w2.heap.size w2 w) => tRank_c (HS.out.below hb) HT.out HUP.out hl1 u hu
    have CLn := fun w (hb : Below w2.heap.size w2 w) => tLen_c (HS.out.below hb) HT.out
    have CSl := fun w (hb : Below w2.heap.size w2 w) => tSelect_c (HS.out.below hb) HT.out HUP.out hl1 K hK
    rw [HN.out] at CLn
    obtain ⟨⟨⟨gu, gf, gt⟩, gb⟩, hgg⟩ : ∃ g, getOf l u = g := ⟨_, rfl⟩
    have CRG2 := CRG.out
    rw [hgg] at CGt CRG2
    obtain ⟨⟨⟨su, sf, st⟩, sb⟩, hss⟩ : ∃ s, selOf l K = s := ⟨_, rfl⟩
    have HSS := Lib.hid hss
    rw [hss] at CSl
    obtain ⟨rk, hrk⟩ : ∃ rk, rankOf l u = rk := ⟨_, rfl⟩
    have CRR2 := CRR.out
    rw [hrk] at CRk CRR2
    obtain ⟨dn, hdn⟩ : ∃ dn, nd u = dn := ⟨_, rfl⟩
    have CNd2 := CNd.out
    have CRN2 := CRN.out
    rw [hdn] at CNd2 CRN2
    unfold iS rV at CGt CSl
    unfold rV at CRG2
    unfold iS at CRk CLn
    dsimp only at CGt CSl CRG2
    have HGt := Lib.hid CGt
    have HRk := Lib.hid CRk
    have HLn := Lib.hid CLn
    have HSl := Lib.hid CSl
    have HRG := Lib.hid CRG2
    have HRR := Lib.hid CRR2
    have HNd := Lib.hid CNd2
    have HRN := Lib.hid CRN2
    have HB7 := Lib.hid (fun w => back7_c ⟨gu, gf, gt⟩ w)
    unfold rV at HB7
    have hb8 : Below w2.heap.size w2 (w2.alloc (.cells #[.int .i64 r, .int .i64 H] 28)) := (Below.refl _ _).alloc (Nat.le_refl _) _
    have ht8 := TB.new w2 r H
    obtain ⟨wA, hwA⟩ : ∃ wA, w2.alloc (.cells #[.int .i64 r, .int .i64 H] 28) = wA := ⟨_, rfl⟩
    rw [hwA] at hb8 ht8 ⊢
    have HB8 := Lib.hid hb8
    have HT8 := Lib.hid ht8
    clear CGt CRk CLn CSl CRG2 CRR2 CNd2 CRN2 CRG CRR CNd CRN hgg hss hrk hdn hb8 ht8 hwA HCS HCG hl1
    obtain ⟨B8, hB8⟩ : ∃ B8, w2.heap.size = B8 := ⟨_, rfl⟩
    have HBB8 := Lib.hid hB8
    rw [hB8] at HT8 ⊢
    obtain ⟨c0, c1⟩ := HT8.out.cell
    have hlt8 := HT8.out.lt
    clear hB8
    go_upto_region 5 with (go_at_call 11; refine (HGt.out _ HB8.out).mono ?_; rintro e w3 ⟨rfl, hb3⟩; have HB3 := Lib.hid (HB8.out.trans (hb3.mono HB8.out.size)); have HT3 := Lib.hid (HT8.out.below hb3 hlt8); clear hb3)
    have h9 := Tri.new w3 33 (.int .u32 gu) (.int .u8 gf) (.string gt)
    have hb9 : Below w3.heap.size w3 (w3.alloc (.cells #[.int .u32 gu, .int .u8 gf, .string gt] 33)) := (Below.refl _ _).alloc (Nat.le_refl _) _
    obtain ⟨wC, hwC⟩ : ∃ wC, w3.alloc (.cells #[.int .u32 gu, .int .u8 gf, .string gt] 33) = wC := ⟨_, rfl⟩
    rw [hwC] at h9 hb9 ⊢
    have HB9 := Lib.hid (HB3.out.trans (hb9.mono HB3.out.size))
    have HT9 := Lib.hid h9
    have HT89 := Lib.hid (HT3.out.below hb9 HT3.out.lt)
    obtain ⟨B9, hB9⟩ : ∃ B9, w3.heap.size = B9 := ⟨_, rfl⟩
    have HBB9 := Lib.hid hB9
    have HGE : Hid (W.heap.size ≤ w3.heap.size) := (HB2.out.trans (HB3.out.mono HB2.out.size)).size
    rw [hB9] at HT9 HGE ⊢
    clear h9 hb9 hwC hB9 c0 c1 hlt8
    have hWC : Below W.heap.size W wC := HB2.out.trans (HB9.out.mono HB2.out.size)
    have HWC := Lib.hid hWC
    clear hWC
    go_upto_region 6 with (go_at_call 12; refine (HRG.out _ HWC.out).mono ?_; rintro e w5 ⟨rfl, hb5⟩; have HB5 := Lib.hid hb5; clear hb5)
    have h11 := Tri.new w5 37 (.int .u32 gu) (.int .u8 gf) (.string gt)
    have hb11 : Below w5.heap.size w5 (w5.alloc (.cells #[.int .u32 gu, .int .u8 gf, .string gt] 37)) := (Below.refl _ _).alloc (Nat.le_refl _) _
    obtain ⟨wD, hwD⟩ : ∃ wD, w5.alloc (.cells #[.int .u32 gu, .int .u8 gf, .string gt] 37) = wD := ⟨_, rfl⟩
    rw [hwD] at h11 hb11 ⊢
    obtain ⟨B11, hB11⟩ : ∃ B11, w5.heap.size = B11 := ⟨_, rfl⟩
    rw [hB11] at h11 ⊢
    have hD5 : Below wC.heap.size wC wD := HB5.out.trans (hb11.mono HB5.out.size)
    have hD2 : Below w2.heap.size w2 wD := HB9.out.trans (hD5.mono HB9.out.size)
    have hDW : Below W.heap.size W wD := HB2.out.trans (hD2.mono HB2.out.size)
    have hT8 := HT89.out.below hD5 HT89.out.lt
    have hT9 := HT9.out.below hD5 HT9.out.lt
    obtain ⟨x0, x1⟩ := hT8.cell
    obtain ⟨y0, y1, y2, yf0, yf1, yf2⟩ := hT9.cell
    obtain ⟨z0, z1, z2, _, _, _⟩ := h11.cell
    have HTS : Hid (TS wD r H B9 B11 B8 (.int .u32 gu) (.int .u8 gf) (.string gt) wD) := ⟨y0, y1, y2, z0, z1, z2, x0, x1, ⟨hT9.lt, h11.lt, hT8.lt⟩, Below.refl _ _⟩
    have K7 := Lib.hid (fun w (_ : Below wD.heap.size wD w) => HB7.out w)
    have KRk := Lib.hid (fun w (hb : Below wD.heap.size wD w) => HRk.out w (hD2.trans (hb.mono hD2.size)))
    have KLn := Lib.hid (fun w (hb : Below wD.heap.size wD w) => HLn.out w (hD2.trans (hb.mono hD2.size)))
    have KSl := Lib.hid (fun w (hb : Below wD.heap.size wD w) => HSl.out w (hD2.trans (hb.mono hD2.size)))
    have KRR := Lib.hid (fun w (hb : Below wD.heap.size wD w) => (HRR.out w (hDW.trans (hb.mono hDW.size))).mono (R' := fun e w' => e = .returned (.int .i64 rk) ∧ Below w.heap.size w w') fun e w' h => ⟨h.1, by rw [h.2]; exact Below.refl _ _⟩)
    have KNd := Lib.hid (fun w (hb : Below wD.heap.size wD w) => (HNd.out w).mono (R' := fun e w' => e = .returned (.int .i64 dn) ∧ Below w.heap.size w w') fun e w' h => ⟨h.1, by rw [h.2]; exact Below.refl _ _⟩)
    have KRN := Lib.hid (fun w (hb : Below wD.heap.size wD w) => (HRN.out w).mono (R' := fun e w' => e = .returned (.int .i64 dn) ∧ Below w.heap.size w w') fun e w' h => ⟨h.1, by rw [h.2]; exact Below.refl _ _⟩)
    have HDW := Lib.hid hDW
    have HT9D := Lib.hid hT9
    have HT8D := Lib.hid hT8
    clear hD5 hD2 hDW hT8 hT9 h11 hb11 hwD hB11 HB7 HRk HLn HSl HRR HNd HRN HGt HRG yf0 yf1 yf2 HB5 HB9 HT89 HT9 HWC HB3 HT3 HT8 HB8
    go_region_held3 (fun w' => w'.cell? ⟨B9, 0, none⟩ = some (.int .u32 gu) ∧ w'.cell? ⟨B9, 1, none⟩ = some (.int .u8 gf) ∧ w'.cell? ⟨B9, 2, none⟩ = some (.string gt) ∧ w'.cell? ⟨B11, 0, none⟩ = some (.int .u32 gu) ∧ w'.cell? ⟨B11, 1, none⟩ = some (.int .u8 gf) ∧ w'.cell? ⟨B11, 2, none⟩ = some (.string gt) ∧
        w'.cell? ⟨B8, 0, none⟩ = some (.int .i64 r) ∧ w'.cell? ⟨B8, 1, none⟩ = some (.int .i64 H) ∧ (B9 < wD.heap.size ∧ B11 < wD.heap.size ∧ B8 < wD.heap.size) ∧ Below wD.heap.size wD w')
      (first | exact HTS.out | exact ⟨y0, y1, y2, z0, z1, z2, x0, x1, HTS.out.2.2.2.2.2.2.2.2.1, below_drewN (Below.refl _ _) _⟩ | assumption)
      (first | (go_at_call 13; refine (K7.out _ (TS.to (r := r) (h := (H : Int)) (B9 := B9) (B11 := B11) (B8 := B8) (a := .int .u32 gu) (b := .int .u8 gf) (c := .string gt) (by assumption))).mono ?_; rintro e w9 ⟨rfl, hb9⟩; have hs2 := TS.call (W2 := wD) (r := r) (h := (H : Int)) (B9 := B9) (B11 := B11) (B8 := B8) (a := .int .u32 gu) (b := .int .u8 gf) (c := .string gt) (by assumption) hb9; unfold TS at hs2) | (go_at_call 14; refine (KRk.out _ (TS.to (r := r) (h := (H : Int)) (B9 := B9) (B11 := B11) (B8 := B8) (a := .int .u32 gu) (b := .int .u8 gf) (c := .string gt) (by assumption))).mono ?_; rintro e w9 ⟨rfl, hb9⟩; have hs2 := TS.call (W2 := wD) (r := r) (h := (H : Int)) (B9 := B9) (B11 := B11) (B8 := B8) (a := .int .u32 gu) (b := .int .u8 gf) (c := .string gt) (by assumption) hb9; unfold TS at hs2) | (go_at_call 15; refine (KRR.out _ (TS.to (r := r) (h := (H : Int)) (B9 := B9) (B11 := B11) (B8 := B8) (a := .int .u32 gu) (b := .int .u8 gf) (c := .string gt) (by assumption))).mono ?_; rintro e w9 ⟨rfl, hb9⟩; have hs2 := TS.call (W2 := wD) (r := r) (h := (H : Int)) (B9 := B9) (B11 := B11) (B8 := B8) (a := .int .u32 gu) (b := .int .u8 gf) (c := .string gt) (by assumption) hb9; unfold TS at hs2) | (go_at_call 16; refine (KLn.out _ (TS.to (r := r) (h := (H : Int)) (B9 := B9) (B11 := B11) (B8 := B8) (a := .int .u32 gu) (b := .int .u8 gf) (c := .string gt) (by assumption))).mono ?_; rintro e w9 ⟨rfl, hb9⟩; have hs2 := TS.call (W2 := wD) (r := r) (h := (H : Int)) (B9 := B9) (B11 := B11) (B8 := B8) (a := .int .u32 gu) (b := .int .u8 gf) (c := .string gt) (by assumption) hb9; unfold TS at hs2) | (go_at_call 17; refine (KNd.out _ (TS.to (r := r) (h := (H : Int)) (B9 := B9) (B11 := B11) (B8 := B8) (a := .int .u32 gu) (b := .int .u8 gf) (c := .string gt) (by assumption))).mono ?_; rintro e w9 ⟨rfl, hb9⟩; have hs2 := TS.call (W2 := wD) (r := r) (h := (H : Int)) (B9 := B9) (B11 := B11) (B8 := B8) (a := .int .u32 gu) (b := .int .u8 gf) (c := .string gt) (by assumption) hb9; unfold TS at hs2) | (go_at_call 18; refine (KRN.out _ (TS.to (r := r) (h := (H : Int)) (B9 := B9) (B11 := B11) (B8 := B8) (a := .int .u32 gu) (b := .int .u8 gf) (c := .string gt) (by assumption))).mono ?_; rintro e w9 ⟨rfl, hb9⟩; have hs2 := TS.call (W2 := wD) (r := r) (h := (H : Int)) (B9 := B9) (B11 := B11) (B8 := B8) (a := .int .u32 gu) (b := .int .u8 gf) (c := .string gt) (by assumption) hb9; unfold TS at hs2))
    have HB9 := Lib.hid hs2.2.2.2.2.2.2.2.2.2
    have hl9 := hs2.2.2.2.2.2.2.2.2.1
    clear hs2 x0 x1 y0 y1 y2 z0 z1 z2 K7 KRk KLn KRR KNd KRN HTS
    have hs8 := (HT8D.out.below HB9.out hl9.2.2).lt
    obtain ⟨x0, x1⟩ := (HT8D.out.below HB9.out hl9.2.2).cell
    have HL9 := Lib.hid hl9
    clear hl9
    go_upto_region 9 with (go_at_call 19; refine (KSl.out _ HB9.out).mono ?_; rintro e wE ⟨rfl, hbE⟩; have HBE := Lib.hid (HB9.out.trans (hbE.mono HB9.out.size)); obtain ⟨y0, y1, y2, yf0, yf1, yf2⟩ := (HT9D.out.below HBE.out HL9.out.1).cell; have hs9 := (HT9D.out.below HBE.out HL9.out.1).lt; clear hbE)
    have hT9E := ((((HT9D.out.below HBE.out HL9.out.1).set0 (.int .u32 su)).set1 (.int .u8 sf)).set2 (.string st))
    have hWE : Below W.heap.size W wE := HDW.out.trans (HBE.out.mono HDW.out.size)
    have hWF := ((hWE.setCell (p := ⟨B9, 0, none⟩) HGE.out (.int .u32 su)).setCell (p := ⟨B9, 1, none⟩) HGE.out (.int .u8 sf)).setCell (p := ⟨B9, 2, none⟩) HGE.out (.string st)
    obtain ⟨wF, hwF⟩ : ∃ wF, ((wE.setCell ⟨B9, 0, none⟩ (.int .u32 su)).setCell ⟨B9, 1, none⟩ (.int .u8 sf)).setCell ⟨B9, 2, none⟩ (.string st) = wF := ⟨_, rfl⟩
    rw [hwF] at hT9E hWF ⊢
    have HTF := Lib.hid hT9E
    have HWF := Lib.hid hWF
    have HAW := Lib.hid awake7_c
    have HBK := Lib.hid (fun w => back7_c ⟨su, sf, st⟩ w)
    unfold rV at HBK
    clear hT9E hWE hWF hwF x0 x1 y0 y1 y2 yf0 yf1 yf2 hs8 hs9 KSl HT9D HT8D HL9 HBE HB9 HDW
    obtain ⟨y0, y1, y2, yf0, yf1, yf2⟩ := HTF.out.cell
    have hs9 := HTF.out.lt
    have HLF := Lib.hid (HL.out.below HWF.out)
    by_cases hin : 0 ≤ K ∧ K < N
    · obtain ⟨k, rfl⟩ : ∃ k : Nat, K = k := ⟨K.toNat, by omega⟩
      obtain ⟨q, hq⟩ : ∃ q, l[k]? = some q := ⟨_, List.getElem?_eq_getElem (by rw [HN.out]; omega)⟩
      have hse := HSS.out
      rw [selOf_nat, hq] at hse
      cases hse
      obtain ⟨b, off, hab, hb, k0, k1, k2⟩ := HLF.out.at hq
      subst hab
      have g1 : ¬ (k : Int) < 0 := by omega
      have g2 : (0 : Int) ≤ k := by omega
      have g3 : (k : Int) < N := by omega
      have g4 : ¬ (N : Int) ≤ k := by omega
      clear hin hq HSS
      go_upto_region 11 with fail
      have HUS : Hid (US wF B9 b (off + k * 3) (off + k * 3 + 1) (off + k * 3 + 2) (.int .u32 su) (.int .u8 sf) (.string st) wF) := ⟨y0, y1, y2, k0, k1, k2, ⟨hs9, hb⟩, Below.refl _ _⟩
      go_region_held3 (fun w' => w'.cell? ⟨B9, 0, none⟩ = some (.int .u32 su) ∧ w'.cell? ⟨B9, 1, none⟩ = some (.int .u8 sf) ∧ w'.cell? ⟨B9, 2, none⟩ = some (.string st) ∧ w'.cell? ⟨b, off + k * 3, none⟩ = some (.int .u32 su) ∧ w'.cell? ⟨b, off + k * 3 + 1, none⟩ = some (.int .u8 sf) ∧ w'.cell? ⟨b, off + k * 3 + 2, none⟩ = some (.string st) ∧ (B9 < wF.heap.size ∧ b < wF.heap.size) ∧ Below wF.heap.size wF w')
        (first | exact HUS.out | exact ⟨y0, y1, y2, k0, k1, k2, HUS.out.2.2.2.2.2.2.1, below_drewN (Below.refl _ _) _⟩ | assumption)
        (first | (go_at_call 13; refine (HBK.out _).mono ?_; rintro e w9 ⟨rfl, hb9⟩; have hs2 := US.call (W2 := wF) (B9 := B9) (b := b) (o0 := off + k * 3) (o1 := off + k * 3 + 1) (o2 := off + k * 3 + 2) (a := .int .u32 su) (c := .int .u8 sf) (d := .string st) (by assumption) hb9; unfold US at hs2) | (go_at_call 20; refine (HAW.out _).mono ?_; rintro e w9 ⟨rfl, hb9⟩; have hs2 := US.call (W2 := wF) (B9 := B9) (b := b) (o0 := off + k * 3) (o1 := off + k * 3 + 1) (o2 := off + k * 3 + 2) (a := .int .u32 su) (c := .int .u8 sf) (d := .string st) (by assumption) hb9; unfold US at hs2))
      all_goals
        have HWZ := Lib.hid (HWF.out.trans (hs2.2.2.2.2.2.2.2.mono HWF.out.size))
        clear hs2
        go_wp2_with fail
        go_ret
        exact ⟨rfl, HWZ.out⟩
    · have hse : (⟨su, sf, st⟩, sb) = (noR, false) := by
        rw [← HSS.out]
        unfold selOf
        by_cases h0 : K < 0
        · rw [if_pos h0]
        · rw [if_neg h0, List.getElem?_eq_none (by rw [HN.out]; omega)]
      unfold noR at hse
      cases hse
      clear HSS
      by_cases h0 : K < 0
      · have g1 : K < 0 := h0
        go_wp2_with (first
          | (go_at_call 13; refine (HBK.out _).mono ?_; rintro e w9 ⟨rfl, hb9⟩; have HW9 := Lib.hid (HWF.out.trans (hb9.mono HWF.out.size)); clear hb9)
          | (go_at_call 20; refine (HAW.out _).mono ?_; rintro e w10 ⟨rfl, hb10⟩; have HW10 := Lib.hid (HW9.out.trans (hb10.mono HW9.out.size)); clear hb10))
        go_ret
        exact ⟨rfl, HW10.out⟩
      · have g1 : ¬ K < 0 := h0
        have g2 : (N : Int) ≤ K := by omega
        go_wp2_with (first
          | (go_at_call 13; refine (HBK.out _).mono ?_; rintro e w9 ⟨rfl, hb9⟩; have HW9 := Lib.hid (HWF.out.trans (hb9.mono HWF.out.size)); clear hb9)
          | (go_at_call 20; refine (HAW.out _).mono ?_; rintro e w10 ⟨rfl, hb10⟩; have HW10 := Lib.hid (HW9.out.trans (hb10.mono HW9.out.size)); clear hb10))
        go_ret
        exact ⟨rfl, HW10.out⟩
end Go.Proofs.Ytbgiehfklfojkaa

/-
  The law's step, walked: its tail.
-/
import Derived.Test.YtefmojohabdjcaaRnF
import Derived.Deep.AppendLies
import Derived.Deep.CutRange
set_option linter.unusedVariables false
set_option linter.unusedSimpArgs false
namespace Go.Proofs.Ytefmojohabdjcaa
open Go Go.RowKit
attribute [local go_sem ↓] Go.wp_at_zero Go.wp_at_succ

variable {W0 : World} {B : RB} {C : RC} {s : RS} {w w' : World} {n : Nat}
theorem over_clo {B R b c m : Nat} {pc : PC} (h : ActAt w B (cloV R b c pc) m) : Calls Try.prog 24 #[pa B] w fun e w' => e = .returned (.bool pc.isDone) ∧ w' = w := by
  cases hd : pc.isDone with
  | false =>
    obtain ⟨g, lb, hg⟩ := clo_fv R b c pc hd
    rw [hg] at h
    exact over_some _ _ _ _ _ h
  | true =>
    have hp : pc = .done := by
      cases hpc : pc with
      | done => rfl
      | _ => rw [hpc] at hd; cases hd
    rw [hp] at h
    exact over_none _ _ _ h
theorem dgF_same {C C' : RC} {s s' : RS} {i j : Nat} (h1 : (s.pc i).isDone = (s'.pc i).isDone) (h2 : C.pb i = C'.pb i) (h3 : C.mv i = C'.mv i) (h4 : s.nx i = s'.nx i) (h5 : s.kd i = s'.kd i) (h6 : s.pn i = s'.pn i) (h7 : s.si i = s'.si i) (h8 : s.tn i = s'.tn i) : dgF C s i j = dgF C' s' i j := by
  unfold dgF actV
  rw [h1, h2, h3, h4, h5, h6, h7, h8]
def StepOK (W0 : World) (B : RB) (n : Nat) (e : Ending) (w' : World) : Prop := e = .returned (.bool true) ∧ ∃ C' s', RInv W0 B C' s' w' ∧ LInv B n s'
def MidOK (W0 : World) (B : RB) (n who : Nat) (w' : World) : Prop := ∃ C' s', Hid (RInv W0 B C' s' w') ∧ Hid (LInv B (n + 1) s') ∧ Hid ((s'.pc who).isDone = false ∧ s'.tn who ≤ 2 * n + 1 ∧ s'.es.t ≤ n + 10)

def headIs (n : Nat) : Code → Bool
  | .region k _ _ => k == n
  | .seq a _ => headIs n a
  | _ => false
def tailOf (n : Nat) : Code → Option Code
  | .seq a b => if headIs n a then some (.seq a b) else match tailOf n a with
    | some c => some c
    | none => tailOf n b
  | .loop c => tailOf n c
  | .block _ c => tailOf n c
  | .scope c => tailOf n c
  | .cond _ a b => match tailOf n a with
    | some c => some c
    | none => tailOf n b
  | _ => none
noncomputable def stepTail : Code := ((Try.f8.body.bind (tailOf 31)).getD .skip)
set_option maxRecDepth 1000000 in
set_option maxHeartbeats 40000000 in
theorem step_tail {W0 : World} {B : RB} {n : Nat} (hn : n ≤ 1000) {who R : Nat} (HWR : Hid (who < B.p.R)) (HR : Hid (B.p.R = R)) (hR8 : R ≤ 8) (hwR : who < R) (q0 : (0 : Int) ≤ who) (q1 : (who : Int) < R) {la : Option Addr} {N lc : Nat} {wc : World}
    {u6 u8 u9 u14 u15 u16 u17 u18 u19 u20 u21 u22 u23 u24 u25 u26 u27 u28 u29 u30 u31 u32 u33 u34 u35 u36 u37 u38 u39 u40 u41 u42 u43 u44 u45 u46 u47 u48 u49 u50 u51 u52 u53 u54 u55 u56 u57 u58 u59 u60 u61 u62 u63 u64 u65 u66 u67 u68 u69 u70 u71 u72 u73 u74 u75 u76 u77 u78 u79 u80 u81 u82 u83 u84 u85 u86 u87 u88 u89 u90 u91 u92 u93 u94 u95 u96 u97 u98 u99 u100 u101 u102 u103 u104 u105 u106 u107 u108 u109 u110 u111 u112 u113 u114 u115 u116 u117 u118 u119 u120 u121 u122 u123 u124 u125 u126 u127 u128 u129 u130 u131 u132 u133 u134 u135 u136 u137 u138 u139 u140 u141 u142 u143 u144 u145 u146 u147 u148 u149 u150 u151 u152 u153 u154 u155 u156 u157 u158 u159 u160 u161 u162 u163 u164 u165 u166 u167 u168 u169 u170 u171 u172 u173 u174 u175 u176 u177 u178 u179 u180 u181 u182 u183 u184 u185 u186 u187 u188 u189 u190 u191 u192 u193 u194 u195 u196 u197 u198 u199 u200 u201 u202 u203 u204 u205 u206 u207 u208 u209 u210 u211 u212 u213 u214 u215 u216 u217 u218 u219 u220 u221 u222 u223 u224 u225 u226 u227 u228 u229 u230 u231 u232 u233 u234 u235 u236 u237 u238 u239 u240 u241 u242 u243 u244 u245 u246 u247 u248 u249 u250 u251 u252 u253 u254 u255 u256 u257 u258 u259 u260 u261 u262 u263 u264 u265 u266 u267 u268 u269 u270 u271 u272 u273 u274 u275 u276 u277 u278 u279 u280 u281 u282 u283 u284 u285 u286 : Value} (hcut : MidOK W0 B n who wc) :
    Code.wp Try.prog stepTail (bodyPost Try.prog Try.f8 fun e w' => StepOK W0 B (n + 1) e w') ⟨#[Value.pointer (some ⟨B.Wb, 0, none⟩), .int .i64 who, .slice la N lc, undef, undef, undef, u6, .pointer (some ⟨B.Ab, who * 7, none⟩), u8, u9, undef, undef, undef, undef, u14, u15, u16, u17, u18, u19, u20, u21, u22, u23, u24, u25, u26, u27, u28, u29, u30, u31, u32, u33, u34, u35, u36, u37, u38, u39, u40, u41, u42, u43, u44, u45, u46, u47, u48, u49, u50, u51, u52, u53, u54, u55, u56, u57, u58, u59, u60, u61, u62, u63, u64, u65, u66, u67, u68, u69, u70, u71, u72, u73, u74, u75, u76, u77, u78, u79, u80, u81, u82, u83, u84, u85, u86, u87, u88, u89, u90, u91, u92, u93, u94, u95, u96, u97, u98, u99, u100, u101, u102, u103, u104, u105, u106, u107, u108, u109, u110, u111, u112, u113, u114, u115, u116, u117, u118, u119, u120, u121, u122, u123, u124, u125, u126, u127, u128, u129, u130, u131, u132, u133, u134, u135, u136, u137, u138, u139, u140, u141, u142, u143, u144, u145, u146, u147, u148, u149, u150, u151, u152, u153, u154, u155, u156, u157, u158, u159, u160, u161, u162, u163, u164, u165, u166, u167, u168, u169, u170, u171, u172, u173, u174, u175, u176, u177, u178, u179, u180, u181, u182, u183, u184, u185, u186, u187, u188, u189, u190, u191, u192, u193, u194, u195, u196, u197, u198, u199, u200, u201, u202, u203, u204, u205, u206, u207, u208, u209, u210, u211, u212, u213, u214, u215, u216, u217, u218, u219, u220, u221, u222, u223, u224, u225, u226, u227, u228, u229, u230, u231, u232, u233, u234, u235, u236, u237, u238, u239, u240, u241, u242, u243, u244, u245, u246, u247, u248, u249, u250, u251, u252, u253, u254, u255, u256, u257, u258, u259, u260, u261, u262, u263, u264, u265, u266, u267, u268, u269, u270, u271, u272, u273, u274, u275, u276, u277, u278, u279, u280, u281, u282, u283, u284, u285, u286], []⟩ wc := by
  conv => arg 2; whnf
  obtain ⟨C1, s1, HI1, HL1, HX1⟩ := hcut
  obtain ⟨c0, c1, c2, c3⟩ := HI1.out.wq.cell
  have c4 := HI1.out.wq.lt
  obtain ⟨d0, d1, d2, d3, d4, d5, d6⟩ := HI1.out.all.cells HWR.out
  obtain ⟨f0, f1, f2, f3, f4, f5, f6⟩ := dgF_cells C1 s1 who
  rw [f1] at d1
  unfold actV at d1
  rw [HX1.out.1, if_neg (by decide)] at d1
  have d7 := HI1.out.all.lt
  have CS := Lib.hid (rstep_c HI1.out.toAll HL1.out (by omega) HWR.out HX1.out.1)
  have hkd := HL1.out.kd who HWR.out
  have HF := Lib.hid (HL1.out.pin.facts HWR.out HX1.out.1)
  have HKK := Lib.hid (HL1.out.kind who HWR.out HX1.out.1)
  obtain ⟨pbw, hpbw⟩ : ∃ x, C1.pb who = x := ⟨_, rfl⟩
  rw [hpbw] at d1 CS
  have HPB := Lib.hid hpbw
  unfold pa at d1 CS
  clear d0 d2 d3 d4 d5 d6 f0 f1 f2 f3 f4 f5 f6 c0 c1 c2 c3 c4 hpbw
  go_wp2_with fail
  refine CS.out.mono ?_
  rintro e w2 ⟨rfl, b', c', hA2, ha2, hm2, hws2⟩
  obtain ⟨r, hr⟩ : ∃ r, nextE B.p s1.es (s1.pc who) = r := ⟨_, rfl⟩
  have hL2 := HL1.out.stepped HWR.out HX1.out.1 (by have := HX1.out.2.2; omega) hws2
  have hF2 := HF.out
  rw [hr] at ha2 hm2 hF2
  have hes : (s1.stepped B.p who).es = r.1 := by unfold RS.stepped; rw [hr]
  have hpc2 : (s1.stepped B.p who).pc who = r.2.1 := by unfold RS.stepped; rw [hr]; exact put1_same _ _ _
  have hpo2 : ∀ i, i ≠ who → (s1.stepped B.p who).pc i = s1.pc i := fun i hi => put1_other _ _ hi
  have HL2 := Lib.hid hL2
  have HF2 := Lib.hid hF2
  have HES := Lib.hid hes
  have HPC := Lib.hid hpc2
  have HPO := Lib.hid hpo2
  have HA2 := Lib.hid hA2
  have HM2 := Lib.hid hm2
  rw [HPB.out] at ha2
  have CO := Lib.hid (over_clo ha2)
  unfold pa at CO
  obtain ⟨e0, e1, e2, e3, e4, e5, e6⟩ := hA2.all.cells HWR.out
  obtain ⟨f0, f1, f2, f3, f4, f5, f6⟩ := dgF_cells C1 s1 who
  rw [f1] at e1
  unfold actV at e1
  rw [HX1.out.1, if_neg (by decide), HPB.out] at e1
  rw [f2] at e2
  rw [f3] at e3
  rw [f6] at e6
  unfold pa at e1
  obtain ⟨kd, hkde⟩ : ∃ kd, s1.kd who = kd := ⟨_, rfl⟩
  rw [hkde] at e3 hkd
  have HKD := Lib.hid hkde
  have e7 := hA2.all.lt
  have e8 := hA2.all.frozen
  obtain ⟨c0, c1, c2, c3⟩ := hA2.q.cell
  have c4 := hA2.q.lt
  have hk3 : kd = 0 ∨ kd = 1 ∨ kd = 2 := by
    have h3 : kindOf (s1.pc who) ≠ 3 := by
      cases hpc : s1.pc who <;> simp [kindOf]
      have := HX1.out.1
      rw [hpc] at this; cases this
    rw [HKK.out, hkde] at h3
    omega
  clear hL2 hF2 hes hpc2 hpo2 hA2 hm2 ha2 hws2 hr f0 f1 f2 f3 f4 f5 f6 hkde CS d1 d7 e0 e4 e5
  unfold pE at c0
  cases hdn : r.2.1.isDone with
  | false =>
    rw [hdn] at CO
    have HDN := Lib.hid hdn
    clear hdn
    have HINV : Hid (r.1.now = s1.es.now → RInv W0 B (C1.stepped who b' c') (s1.stepped B.p who) w2) := fun hnw => by
      refine RAll.inv (s := s1.stepped B.p who) (C := C1.stepped who b' c') (f := dgF C1 s1) ⟨HA2.out.core, ?_, HA2.out.all⟩ HA2.out.core fun i hi j hj => ?_
      · have := HA2.out.q
        rw [show (s1.stepped B.p who).es.now = s1.es.now by rw [HES.out]; exact hnw]
        exact this
      · refine dgF_same ?_ rfl rfl rfl rfl rfl rfl rfl
        by_cases hiw : i = who
        · subst hiw; rw [HPC.out, HDN.out]; exact HX1.out.1
        · rw [HPO.out i hiw]
    rcases hk3 with hk3 | hk3 | hk3
    · subst hk3
      have hnw := ((HF2.out.pin (by rw [HKK.out]; exact HKD.out)).1)
      have HR9 := Lib.hid (HINV.out hnw)
      clear hnw HINV c0 c1 c2 c3 c4 e2 e6
      go_wp2_with (go_at_call 24; refine CO.out.mono ?_; rintro e w' ⟨rfl, hw⟩; rw [hw]; clear hw w')
      go_ret
      exact ⟨rfl, _, _, HR9.out, HL2.out⟩
    · subst hk3
      exfalso
      have := (HF2.out.unp (by rw [HKK.out]; exact HKD.out)).2.1
      rw [HDN.out] at this; cases this
    · subst hk3
      have hadv := HF2.out.adv (by rw [HKK.out]; exact HKD.out)
      have hnw := (hadv.2.2.1 HDN.out).1
      have HR9 := Lib.hid (HINV.out hnw)
      have hmv := HM2.out HKD.out
      rw [(hadv.2.2.1 HDN.out).2] at hmv
      have CMV := Lib.hid (moved_c _ _ _ hmv)
      have hact := (HI1.out.acts who HWR.out HX1.out.1).mv HKD.out
      rw [hact.1] at e2
      unfold pV at e2
      dsimp only [Option.getD] at CMV
      clear hadv hnw HINV hmv hact c0 c1 c2 c3 c4 e6
      go_wp2_with (first | (go_at_call 24; refine CO.out.mono ?_; rintro e w' ⟨rfl, hw⟩; rw [hw]; clear hw w') | (go_at_call 30; refine CMV.out.mono ?_; rintro e w' ⟨rfl, hw⟩; rw [hw]; clear hw w'))
      go_ret
      exact ⟨rfl, _, _, HR9.out, HL2.out⟩
  | true =>
    rw [hdn] at CO
    have HDN := Lib.hid hdn
    clear hdn
    go_upto_region 35 with (go_at_call 24; refine CO.out.mono ?_; rintro e w' ⟨rfl, hw⟩; rw [hw]; clear hw w')
    have hA3 := HA2.out.setA HWR.out (j := 1) (by omega) (.pointer none)
    obtain ⟨w3, hw3⟩ : ∃ w3, w2.setCell ⟨B.Ab, who * 7 + 1, none⟩ (.pointer none) = w3 := ⟨_, rfl⟩
    have HMV3 : Hid (MvAt w2 (C1.V who) (pa (C1.pb who)) (r.2.2.getD false) → MvAt w3 (C1.V who) (pa (C1.pb who)) (r.2.2.getD false)) := fun hm => by
      obtain ⟨cur, hcur, _⟩ := HA2.out.all
      rw [← hw3]
      exact (Below.heap_setCell w2 ⟨B.Ab, who * 7 + 1, none⟩ _ _ fun e => block_ne hm hcur (by decide) e).trans hm
    rw [hw3] at hA3 ⊢
    clear hw3 e1 e2 e3 e6 e7 e8 c0 c1 c2 c3 c4 CO
    obtain ⟨e0, e1, e2, e3, e4, e5, e6⟩ := hA3.all.cells HWR.out
    have f2 : upd7 (dgF C1 s1) who 1 (.pointer none) who 2 = C1.mv who := by simp [upd7, dgF]
    have f3 : upd7 (dgF C1 s1) who 1 (.pointer none) who 3 = .int .u8 kd := by rw [← HKD.out]; simp [upd7, dgF]
    have f6 : upd7 (dgF C1 s1) who 1 (.pointer none) who 6 = .int .i64 (s1.tn who) := by simp [upd7, dgF]
    rw [f2] at e2
    rw [f3] at e3
    rw [f6] at e6
    have e7 := hA3.all.lt
    have e8 := hA3.all.frozen
    obtain ⟨c0, c1, c2, c3⟩ := hA3.q.cell
    have c4 := hA3.q.lt
    have HA3 := Lib.hid hA3
    have CN := now_c hA3.core.ep
    rw [HES.out] at CN
    have HCN := Lib.hid CN
    have CP := pinned_c hA3.core.ep who HWR.out
    rw [HES.out] at CP
    have HCP := Lib.hid CP
    clear hA3 f2 f3 f6 e0 e1 e4 e5 CN CP
    unfold pE at c0 HCN HCP
    have HSAME : Hid (∀ i, i ≠ who → ∀ j, dgF C1 s1 i j = dgF (C1.stepped who b' c') (s1.stepped B.p who) i j) := fun i hi j => dgF_same (by rw [HPO.out i hi]) rfl rfl rfl rfl rfl rfl rfl
    rcases hk3 with hk3 | hk3 | hk3
    · subst hk3
      have hpin := HF2.out.pin (by rw [HKK.out]; exact HKD.out)
      obtain ⟨hpo, hpe⟩ := hpin.2 HDN.out
      have HNW := Lib.hid hpin.1
      have HPE := Lib.hid hpe
      have HPO1 := Lib.hid hpo
      obtain ⟨now, hnow⟩ : ∃ now, s1.es.now = now := ⟨_, rfl⟩
      rw [hpin.1, hnow] at HCN
      have HNOW := Lib.hid hnow
      have e4 := (HA3.out.all.cells HWR.out).2.2.2.2.1
      have e5 := (HA3.out.all.cells HWR.out).2.2.2.2.2.1
      clear hpin hpo hpe HCP e2 c1 c2 c3 hnow e6
      go_upto_region 37 with (go_at_call 21; refine HCN.out.mono ?_; rintro e w' ⟨rfl, hw⟩; rw [hw]; clear hw w')
      have hA5 := (HA3.out.setA HWR.out (j := 4) (by omega) (.bool true)).setA HWR.out (j := 5) (by omega) (.int .u64 now)
      obtain ⟨w5, hw5⟩ : ∃ w5, (w3.setCell ⟨B.Ab, who * 7 + 4, none⟩ (.bool true)).setCell ⟨B.Ab, who * 7 + 5, none⟩ (.int .u64 now) = w5 := ⟨_, rfl⟩
      rw [hw5] at hA5 ⊢
      clear hw5 e3 e4 e5 e7 e8 c0 c4 HCN
      obtain ⟨e0, e1, e2, e3, e4, e5, e6⟩ := hA5.all.cells HWR.out
      have f6 : upd7 (upd7 (upd7 (dgF C1 s1) who 1 (.pointer none)) who 4 (.bool true)) who 5 (.int .u64 now) who 6 = .int .i64 (s1.tn who) := by simp [upd7, dgF]
      rw [f6] at e6
      have e7 := hA5.all.lt
      have e8 := hA5.all.frozen
      have HA5 := Lib.hid hA5
      obtain ⟨tn, htn⟩ : ∃ tn, s1.tn who = tn := ⟨_, rfl⟩
      have htn2 : tn ≤ 3000 := by rw [← htn]; have := HX1.out.2.1; omega
      rw [htn] at e6
      have HTN := Lib.hid htn
      clear hA5 f6 e0 e1 e2 e3 e4 e5 htn
      go_upto_region 38 with (fail)
      have e61 : (tn : Int) + 1 = ((tn + 1 : Nat) : Int) := by omega
      have hA6 := HA5.out.setA HWR.out (j := 6) (by omega) (.int .i64 ((tn + 1 : Nat) : Int))
      obtain ⟨w6, hw6⟩ : ∃ w6, w5.setCell ⟨B.Ab, who * 7 + 6, none⟩ (.int .i64 ((tn + 1 : Nat) : Int)) = w6 := ⟨_, rfl⟩
      rw [hw6] at hA6
      rw [← e61] at hw6
      rw [hw6]
      clear hw6 e6 e7 e8 e61
      obtain ⟨c0, c1, c2, c3⟩ := hA6.q.cell
      have c4 := hA6.q.lt
      have CP := pinned_c hA6.core.ep who HWR.out
      rw [HES.out, HPO1.out, HPE.out, HNOW.out] at CP
      have HCP := Lib.hid CP
      have HA6 := Lib.hid hA6
      clear hA6 CP c1 c2 c3
      unfold pE at c0 HCP
      go_wp2_with fail
      refine HCP.out.mono ?_
      rintro e w7 ⟨rfl, q7, hw7⟩
      have hA7 := HA6.out.drewN q7
      rw [← hw7] at hA7
      obtain ⟨e0, e1, e2, e3, e4, e5, e6⟩ := hA7.all.cells HWR.out
      have f5 : upd7 (upd7 (upd7 (upd7 (dgF C1 s1) who 1 (.pointer none)) who 4 (.bool true)) who 5 (.int .u64 now)) who 6 (.int .i64 ((tn + 1 : Nat) : Int)) who 5 = .int .u64 now := by simp [upd7]
      rw [f5] at e5
      have e7 := hA7.all.lt
      have hended : LInv B (n + 1) ((s1.stepped B.p who).ended who) := HL2.out.ended HWR.out (by rw [HPC.out]; exact HDN.out) (by rw [HES.out]; exact HPO1.out) (by rw [HES.out, HPE.out]; exact HNW.out.symm) (by have := HX1.out.2.1; show s1.tn who + 1 ≤ _; omega)
      have HR9 : Hid (RInv W0 B (C1.stepped who b' c') ((s1.stepped B.p who).ended who) w7) := by
        refine RAll.inv (s := s1.stepped B.p who) (C := C1.stepped who b' c') ⟨hA7.core, ?_, hA7.all⟩ (hA7.core.ended who) fun i hi j hj => ?_
        · have := hA7.q
          rw [show ((s1.stepped B.p who).ended who).es.now = s1.es.now by show (s1.stepped B.p who).es.now = _; rw [HES.out]; exact HNW.out]
          exact this
        · by_cases hiw : i = who
          · subst hiw
            have h7 : j = 0 ∨ j = 1 ∨ j = 2 ∨ j = 3 ∨ j = 4 ∨ j = 5 ∨ j = 6 := by omega
            have hac : actV (C1.stepped i b' c') ((s1.stepped B.p i).ended i) i = .pointer none := by
              unfold actV
              rw [show ((s1.stepped B.p i).ended i).pc i = r.2.1 from HPC.out, HDN.out]; rfl
            have hen : (s1.stepped B.p i).es.now = now := by rw [HES.out, HNW.out]; exact HNOW.out
            rcases h7 with rfl | rfl | rfl | rfl | rfl | rfl | rfl
            · simp [upd7, dgF, RS.stepped, RC.stepped, RS.ended]
            · rw [(dgF_cells _ _ _).2.1, hac]; simp [upd7]
            · simp [upd7, dgF, RS.stepped, RC.stepped, RS.ended]
            · simp [upd7, dgF, RS.stepped, RC.stepped, RS.ended]
            · simp [upd7, dgF, RS.stepped, RC.stepped, RS.ended, put1]
            · rw [f5, (dgF_cells _ _ _).2.2.2.2.2.1]
              show _ = Value.int .u64 ((put1 (s1.stepped B.p i).si i (s1.stepped B.p i).es.now i : Nat) : Int)
              rw [put1_same, hen]
            · rw [(dgF_cells _ _ _).2.2.2.2.2.2]
              show _ = Value.int .i64 ((put1 s1.tn i (s1.tn i + 1) i : Nat) : Int)
              rw [put1_same, HTN.out]; simp [upd7]
          · have h1 := HSAME.out i hiw j
            have h2 : dgF (C1.stepped who b' c') (s1.stepped B.p who) i j = dgF (C1.stepped who b' c') ((s1.stepped B.p who).ended who) i j := dgF_same rfl rfl rfl rfl rfl (put1_other _ _ hiw).symm (put1_other _ _ hiw).symm (put1_other _ _ hiw).symm
            rw [← h2, ← h1]
            unfold upd7
            rw [if_neg (fun h => hiw h.1), if_neg (fun h => hiw h.1), if_neg (fun h => hiw h.1), if_neg (fun h => hiw h.1)]
      have HL9 := Lib.hid hended
      have g9 : ((now : Int) == (now : Int)) = true := by simp
      clear hA7 e0 e1 e2 e3 e4 e6 f5 hended hw7 HCP c0 c4
      go_wp2_with fail
      go_ret
      exact ⟨rfl, _, _, HR9.out, HL9.out⟩
    · subst hk3
      have hunp := HF2.out.unp (by rw [HKK.out]; exact HKD.out)
      rw [hunp.2.2] at HCP
      have HNW := Lib.hid hunp.1
      clear hunp HCN e2 e6 c1 c2 c3
      go_wp2_with fail
      refine HCP.out.mono ?_
      rintro e w4 ⟨rfl, q4, hw4⟩
      have HR9 : Hid (RInv W0 B (C1.stepped who b' c') (s1.stepped B.p who) w4) := by
        have h4 := HA3.out.drewN q4
        rw [← hw4] at h4
        refine RAll.inv (s := s1.stepped B.p who) (C := C1.stepped who b' c') ⟨h4.core, ?_, h4.all⟩ h4.core fun i hi j hj => ?_
        · have := h4.q
          rw [show (s1.stepped B.p who).es.now = s1.es.now by rw [HES.out]; exact HNW.out]
          exact this
        · by_cases hiw : i = who
          · subst hiw
            have h7 : j = 0 ∨ j = 1 ∨ j = 2 ∨ j = 3 ∨ j = 4 ∨ j = 5 ∨ j = 6 := by omega
            have hac : actV (C1.stepped i b' c') (s1.stepped B.p i) i = .pointer none := by unfold actV; rw [HPC.out, HDN.out]; rfl
            rcases h7 with rfl | rfl | rfl | rfl | rfl | rfl | rfl
            · simp [upd7, dgF, RS.stepped, RC.stepped]
            · rw [(dgF_cells _ _ _).2.1, hac]; simp [upd7]
            all_goals simp [upd7, dgF, RS.stepped, RC.stepped]
          · rw [← HSAME.out i hiw j]
            unfold upd7
            rw [if_neg (fun h => hiw h.1)]
      clear hw4 HCP
      go_wp2_with fail
      go_ret
      exact ⟨rfl, _, _, HR9.out, HL2.out⟩
    · subst hk3
      have hadv := (HF2.out.adv (by rw [HKK.out]; exact HKD.out)).2.2.2 HDN.out
      have hmv := HM2.out HKD.out
      have hact := (HI1.out.acts who HWR.out HX1.out.1).mv HKD.out
      rw [hact.1] at e2
      unfold pV at e2
      have hmv3 : MvAt w3 (C1.V who) (pa (C1.pb who)) (r.2.2.getD false) := HMV3.out hmv
      have CMV := Lib.hid (moved_c _ _ _ hmv3)
      obtain ⟨bm, hbm⟩ : ∃ bm, r.2.2.getD false = bm := ⟨_, rfl⟩
      rw [hbm] at CMV hadv
      obtain ⟨now, hnow⟩ : ∃ now, s1.es.now = now := ⟨_, rfl⟩
      have hnn : now ≤ 3000 := by rw [← hnow]; have := HL1.out.le; have := HX1.out.2.2; omega
      rw [hnow] at c3 hadv
      have HNOW := Lib.hid hnow
      have HADV := Lib.hid hadv
      have hset : ∀ (w9 : World), RAll W0 B (C1.stepped who b' c') (s1.stepped B.p who) C1.gv (.int .u64 r.1.now) (upd7 (dgF C1 s1) who 1 (.pointer none)) w9 → RInv W0 B (C1.stepped who b' c') (s1.stepped B.p who) w9 := fun w9 h9 => by
        refine RAll.inv (s := s1.stepped B.p who) (C := C1.stepped who b' c') ⟨h9.core, ?_, h9.all⟩ h9.core fun i hi j hj => ?_
        · have := h9.q
          rw [HES.out]
          exact this
        · by_cases hiw : i = who
          · subst hiw
            have h7 : j = 0 ∨ j = 1 ∨ j = 2 ∨ j = 3 ∨ j = 4 ∨ j = 5 ∨ j = 6 := by omega
            have hac : actV (C1.stepped i b' c') (s1.stepped B.p i) i = .pointer none := by unfold actV; rw [HPC.out, HDN.out]; rfl
            rcases h7 with rfl | rfl | rfl | rfl | rfl | rfl | rfl
            · simp [upd7, dgF, RS.stepped, RC.stepped]
            · rw [(dgF_cells _ _ _).2.1, hac]; simp [upd7]
            all_goals simp [upd7, dgF, RS.stepped, RC.stepped]
          · rw [← HSAME.out i hiw j]
            unfold upd7
            rw [if_neg (fun h => hiw h.1)]
      have HSET := Lib.hid hset
      have c5 : ∀ o, w3.frozen? ⟨B.Wb, o, none⟩ = false := fun o => by
        have hq := HA3.out.q
        have h' : w3.heap[B.Wb]? = _ := hq
        simp [World.frozen?, h']
      clear hadv hmv hact hmv3 hbm hnow hset HCN HCP e6 c0 c1 c2 e8
      cases bm with
      | false =>
        have HR9 : Hid (RInv W0 B (C1.stepped who b' c') (s1.stepped B.p who) w3) := HSET.out w3 (by
          have h9 := HA3.out
          rw [HNOW.out] at h9
          rw [show r.1.now = now from HADV.out]
          exact h9)
        clear c3 c4 c5
        go_wp2_with (go_at_call 30; refine CMV.out.mono ?_; rintro e w' ⟨rfl, hw⟩; rw [hw]; clear hw w')
        go_ret
        exact ⟨rfl, _, _, HR9.out, HL2.out⟩
      | true =>
        have e11 : (now : Int) + 1 = ((now + 1 : Nat) : Int) := by omega
        have hA9 := HA3.out.setM (.int .u64 ((now + 1 : Nat) : Int))
        obtain ⟨w9, hw9⟩ : ∃ w9, w3.setCell ⟨B.Wb, 3, none⟩ (.int .u64 ((now + 1 : Nat) : Int)) = w9 := ⟨_, rfl⟩
        rw [hw9] at hA9
        rw [← e11] at hw9
        have HW9 := Lib.hid hw9
        have HR9 : Hid (RInv W0 B (C1.stepped who b' c') (s1.stepped B.p who) w9) := HSET.out w9 (by
          rw [show r.1.now = now + 1 from HADV.out]
          exact hA9)
        clear hA9 hw9 e11
        go_wp2_with (go_at_call 30; refine CMV.out.mono ?_; rintro e w' ⟨rfl, hw⟩; rw [hw]; clear hw w')
        go_ret
        rw [HW9.out]
        exact ⟨rfl, _, _, HR9.out, HL2.out⟩
end Go.Proofs.Ytefmojohabdjcaa

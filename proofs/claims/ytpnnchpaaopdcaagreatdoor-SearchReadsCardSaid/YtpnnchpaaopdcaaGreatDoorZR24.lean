/-
  The document's reading of a key, at any depth, and the whole of it: contracts; how long the rows of a key that was read are; two sets alike.
-/
import Derived.Test.YtpnnchpaaopdcaaGreatDoorZR04
import Derived.Test.YtpnnchpaaopdcaaGreatDoorZR22
import Derived.Test.YtpnnchpaaopdcaaGreatDoorZR23
import Derived.Test.YtpnnchpaaopdcaaGreatDoorZR21
set_option linter.unusedVariables false
set_option linter.unusedSimpArgs false
namespace Go.Proofs.YtpnnchpaaopdcaaGreatDoor
open Go Go.RowKit
variable {W : World} {g : Nat} {s : RS} {S : List UInt8}
set_option maxRecDepth 100000 in
set_option maxHeartbeats 2000000 in
theorem rkey14_zero : ReadAtD 0 := by
  intro d W g s S hd h hl
  have hgl := h.lt
  obtain ⟨w0, hw0⟩ : ∃ w0, W.alloc (.cells #[.int .i64 0, .int .u8 0, .slice none 0 0, .int .u32 0, .string ⟨#[]⟩, .slice none 0 0] 26) = w0 := ⟨_, rfl⟩
  have hb0 : Below W.heap.size W w0 := by rw [← hw0]; exact (Below.refl _ W).alloc (Nat.le_refl _) _
  have hs0 : w0.heap.size = W.heap.size + 1 := by rw [← hw0]; simp
  have hc0 : Cells w0 W.heap.size 26 #[.int .i64 0, .int .u8 0, .slice none 0 0, .int .u32 0, .string ⟨#[]⟩, .slice none 0 0] := by rw [← hw0]; exact heap_alloc_new W _
  have hp0 : DRS w0 g S s := h.tk (Tk.of_below (g := g + 1) hb0) (by omega)
  have CF := Lib.hid (rtFail_c hp0)
  have FZ : Hid (∀ w, Tk g w0 w → Cells w W.heap.size 26 #[.int .i64 0, .int .u8 0, .slice none 0 0, .int .u32 0, .string ⟨#[]⟩, .slice none 0 0]) := fun w ht => Cells.later hc0 (ht.blk _ (Cells.lt hc0) (by omega))
  have HB0 := Lib.hid hb0
  have HS0 := Lib.hid hs0
  have HW0 := Lib.hid hw0
  have qd : d < 1 := by omega
  obtain ⟨R, hR⟩ : ∃ R, readD 0 s = R := ⟨_, rfl⟩
  have HR := Lib.hid hR
  rw [hR]
  clear h hl hb0 hs0 hc0 hp0 hw0 hd hR
  go_enter Tryz.func76, Tryz.ntmps76
  go_wp2_with fail
  rw [HW0.out]
  refine CF.out.mono ?_
  rintro e w3 ⟨rfl, hp3, hk3⟩
  have K3 := Lib.hid hk3
  have P3 := Lib.hid hp3
  have hcr := FZ.out _ hk3
  have HCR := Lib.hid hcr
  have r0 := hcr.cell (i := 0) rfl
  have r1 := hcr.cell (i := 1) rfl
  have r2 := hcr.cell (i := 2) rfl
  have r3 := hcr.cell (i := 3) rfl
  have r4 := hcr.cell (i := 4) rfl
  have r5 := hcr.cell (i := 5) rfl
  have fr := fun i => hcr.frozen i
  have hrl := hcr.lt
  clear hcr hk3 hp3
  go_wp2_with fail
  refine bodyPost_ret (results_r4 _ _ W.heap.size _ _ _ _ _ _ (Cells.six HCR.out _ _ _ _ _ _) rfl) rfl ?_
  exact rk_fin HB0.out HS0.out hgl K3.out P3.out (KT.mk 0 0 [] 0 [] [] none 0 none 0) rfl (plain_c w3 (W.heap.size + 1) 0 0 0 [] (by omega) (by omega) (by simp)).1 (plain_c w3 (W.heap.size + 1) 0 0 0 [] (by omega) (by omega) (by simp)).2 R HR.out
theorem rkey14_at : ∀ f, f ≤ 17 → ReadAtD f
  | 0, _ => rkey14_zero
  | f + 1, h => rkey14_step (rkey14_at f (by omega)) (by omega)
theorem results_r4b (tmps : Array Value) (w : World) (B : Nat) (a b c d e f : Value) (h : Cells w B 26 #[a, b, c, d, e, f]) (h2 : tmps.getD 4 undef = .pointer (some ⟨B, 0, none⟩)) :
    (results Tryz.f26 tmps).run Tryz.prog w = .ok (.agg #[a, b, c, d, e, f]) w := by
  have c0 := h.cell (i := 0) rfl
  have c1 := h.cell (i := 1) rfl
  have c2 := h.cell (i := 2) rfl
  have c3 := h.cell (i := 3) rfl
  have c4 := h.cell (i := 4) rfl
  have c5 := h.cell (i := 5) rfl
  have h2' : tmps[4]?.getD undef = .pointer (some ⟨B, 0, none⟩) := by simpa using h2
  simp [results, Tryz.f26, go_sem, h2', c0, c1, c2, c3, c4, c5]
set_option maxRecDepth 100000 in
set_option maxHeartbeats 4000000 in
theorem rRead14_c (h : DRS W g S s) (hl : S.length ≤ 10000) : Calls Tryz.prog 26 #[pt g, .int .i64 16] W (ReadDoesD W g S (topD s)) := by
  have hgl := h.lt
  have hok := readD_ok 16 s h.ok
  obtain ⟨w0, hw0⟩ : ∃ w0, W.alloc (.cells #[.int .i64 0, .int .u8 0, .slice none 0 0, .int .u32 0, .string ⟨#[]⟩, .slice none 0 0] 26) = w0 := ⟨_, rfl⟩
  have hb0 : Below W.heap.size W w0 := by rw [← hw0]; exact (Below.refl _ W).alloc (Nat.le_refl _) _
  have hs0 : w0.heap.size = W.heap.size + 1 := by rw [← hw0]; simp
  have hc0 : Cells w0 W.heap.size 26 #[.int .i64 0, .int .u8 0, .slice none 0 0, .int .u32 0, .string ⟨#[]⟩, .slice none 0 0] := by rw [← hw0]; exact heap_alloc_new W _
  have hp0 : DRS w0 g S s := h.tk (Tk.of_below (g := g + 1) hb0) (by omega)
  have C := rkey14_at 16 (by omega) 16 w0 g s S rfl hp0 hl
  have FZ : Hid (∀ w, Tk g w0 w → Cells w W.heap.size 26 #[.int .i64 0, .int .u8 0, .slice none 0 0, .int .u32 0, .string ⟨#[]⟩, .slice none 0 0]) := fun w ht => Cells.later hc0 (ht.blk _ (Cells.lt hc0) (by omega))
  have HB0 := Lib.hid hb0
  have HS0 := Lib.hid hs0
  have HW0 := Lib.hid hw0
  have C := Lib.hid C
  obtain ⟨R, hR⟩ : ∃ R, topD s = R := ⟨_, rfl⟩
  unfold topD at hR
  unfold topD
  rw [hR]
  obtain ⟨q, hq⟩ : ∃ q, readD 16 s = q := ⟨_, rfl⟩
  rw [hq] at C hR hok
  have HR := Lib.hid hR
  have HOK := Lib.hid hok
  clear h hl hb0 hs0 hc0 hp0 hw0 hR hok hq
  go_enter Tryz.func26, Tryz.ntmps26
  go_wp2_with fail
  rw [HW0.out]
  refine C.out.mono ?_
  rintro e w1 ⟨kt, rfl, hbk, hkc, hki, hpr, htk⟩
  obtain ⟨xk, xf, xm, xn, xl, xsp, xkp, xsc, xkc, X, hv, hc⟩ := kt.form
  have hcl : kt.cells = [.int .i64 xk, .int .u8 xf, .slice xsp xm xsc, .int .u32 xn, .string X, .slice xkp xl xkc] := by
    have := congrArg Array.toList hc; simpa using this
  rw [hv]
  obtain ⟨w2, hw2⟩ : ∃ w2, w1.alloc (.cells #[.int .i64 xk, .int .u8 xf, .slice xsp xm xsc, .int .u32 xn, .string X, .slice xkp xl xkc] 26) = w2 := ⟨_, rfl⟩
  have hb2 : Below w1.heap.size w1 w2 := by rw [← hw2]; exact (Below.refl _ w1).alloc (Nat.le_refl _) _
  have hx2 : Cells w2 w1.heap.size 26 #[.int .i64 xk, .int .u8 xf, .slice xsp xm xsc, .int .u32 xn, .string X, .slice xkp xl xkc] := by rw [← hw2]; exact heap_alloc_new w1 _
  have hp2 := hpr.tk (Tk.of_below (g := g + 1) hb2) (by omega)
  have ht2 := htk.trans (Tk.of_below (g := g) hb2)
  have hs1 := htk.size
  rw [HS0.out] at hs1 hki
  have HK2 := Lib.hid (KeyC.below hb2 kt hkc)
  obtain ⟨a, fl, hD, ha, hds⟩ := hp2
  have hfl := drs_f hds
  obtain ⟨_, _, c2, hgb, _, _⟩ := hD.facts
  have hcr := FZ.out _ ht2
  have HCR := Lib.hid hcr
  have r0 := hcr.cell (i := 0) rfl
  have r1 := hcr.cell (i := 1) rfl
  have r2 := hcr.cell (i := 2) rfl
  have r3 := hcr.cell (i := 3) rfl
  have r4 := hcr.cell (i := 4) rfl
  have r5 := hcr.cell (i := 5) rfl
  have fr := fun i => hcr.frozen i
  have hrl := hcr.lt
  have x0 := hx2.cell (i := 0) rfl
  have x1 := hx2.cell (i := 1) rfl
  have x2 := hx2.cell (i := 2) rfl
  have x3 := hx2.cell (i := 3) rfl
  have x4 := hx2.cell (i := 4) rfl
  have x5 := hx2.cell (i := 5) rfl
  have xl := hx2.lt
  have HP2 : Hid (DRS w2 g S q.2) := ⟨a, fl, hD, ha, hds⟩
  have HT2 := Lib.hid ht2
  have HKI := Lib.hid hki
  have HBK := Lib.hid hbk
  have HCL := Lib.hid hcl
  have HFL := Lib.hid hfl
  have HW2 := Lib.hid hw2
  clear hv hc hcl hbk hkc hki hpr htk hb2 hx2 ht2 hcr hD ha hds hfl C hw2
  cases fl with
  | true =>
    have HE : Hid ((bareK (KT.mk 0 0 [] 0 [] [] none 0 none 0), q.2) = R) := by
      show (bareK (KT.mk 0 0 [] 0 [] [] none 0 none 0), q.2) = R
      rw [← HR.out, HFL.out, if_pos rfl, gone_of HOK.out HFL.out]
      rfl
    go_wp2_with (first | rw [HW2.out] | fail)
    refine bodyPost_ret (results_r4b _ _ W.heap.size _ _ _ _ _ _ (Cells.six HCR.out _ _ _ _ _ _) rfl) rfl ?_
    exact rk_fin HB0.out HS0.out hgl HT2.out HP2.out (KT.mk 0 0 [] 0 [] [] none 0 none 0) rfl (plain_c w2 (W.heap.size + 1) 0 0 0 [] (by omega) (by omega) (by simp)).1 (plain_c w2 (W.heap.size + 1) 0 0 0 [] (by omega) (by omega) (by simp)).2 R HE.out
  | false =>
    have HE : Hid ((bareK kt, q.2) = R) := by
      show (bareK kt, q.2) = R
      rw [← HR.out, HFL.out, if_neg (by decide), HBK.out]
    go_wp2_with (first | rw [HW2.out] | fail)
    refine bodyPost_ret (results_r4b _ _ W.heap.size _ _ _ _ _ _ (Cells.six HCR.out _ _ _ _ _ _) rfl) rfl ?_
    exact rk_fin HB0.out HS0.out hgl HT2.out HP2.out kt HCL.out HK2.out HKI.out R HE.out
theorem shortNL_of {N : Nat} : ∀ {l : List KT}, (∀ k ∈ l, ShortN N k) → ShortNL N l
  | [], _ => by unfold ShortNL; trivial
  | k :: r, h => by unfold ShortNL; exact ⟨h k (by simp), shortNL_of fun x hx => h x (by simp [hx])⟩
mutual
theorem shortN_bare (N : Nat) : ∀ k : KT, ShortN N (bareK k) ↔ ShortN N k
  | .mk kind flag set n s kids sp scap kp kcap => by
    rw [bareK]
    unfold ShortN
    rw [shortNL_bare N kids, bareL_map, List.length_map]
theorem shortNL_bare (N : Nat) : ∀ l : List KT, ShortNL N (bareL l) ↔ ShortNL N l
  | [] => by rw [bareL]
  | k :: r => by
    rw [bareL]
    unfold ShortNL
    rw [shortN_bare N k, shortNL_bare N r]
end
theorem plain_short (kind flag : Nat) (set : List (Nat × Nat)) (n : Nat) (s : List UInt8) (kids : List KT) (h1 : set.length ≤ 5000) (h2 : kids.length ≤ 5000) (h3 : ∀ k ∈ kids, ShortN 5000 k) : ShortN 5000 (plainK kind flag set n s kids) := by
  unfold plainK ShortN
  exact ⟨h1, h2, shortNL_of h3⟩
theorem more_short {rd : RS → KT × RS} (hr : ∀ a, a.Ok → Fewer a (rd a).2) (hk : ∀ a, a.Ok → a.l.length ≤ 4000 → ShortN 5000 (rd a).1) : ∀ (n : Nat) (a : RS), a.Ok → a.l.length ≤ 4000 → ∀ k ∈ (moreF rd n a).1, ShortN 5000 k
  | 0, a, _, _, k, hm => by unfold moreF at hm; simp at hm
  | n + 1, a, h, hl, k, hm => by
    unfold moreF at hm
    split at hm
    · have h1 := Fewer.word h [32]
      have h2 := hr _ h1.1
      have e1 := h1.2
      have e2 := h2.2
      rcases List.mem_cons.1 hm with e | hm
      · rw [e]; exact hk _ h1.1 (by omega)
      · exact more_short hr hk n _ h2.1 (by omega) k hm
    · simp at hm
theorem short_read : ∀ (f : Nat) (a : RS), a.Ok → a.l.length ≤ 4000 → ShortN 5000 (readF f a).1
  | 0, a, _, _ => plain_short _ _ _ _ _ _ (by simp) (by simp) (by simp)
  | f + 1, a, h, hl => by
    have hk := Fewer.kind h
    have ek := hk.2
    have hr := Fewer.read f
    have ih := short_read f
    unfold readF
    dsimp only
    split
    · exact plain_short _ _ _ _ _ _ (by simp) (by simp) (by simp)
    split
    · exact plain_short _ _ _ _ _ _ (by have := rsetV_len (kindS a); omega) (by simp) (by simp)
    split
    · exact plain_short _ _ _ _ _ _ (by simp) (by simp) (by simp)
    split
    · exact plain_short _ _ _ _ _ _ (by simp) (by simp) (by simp)
    split
    · exact plain_short _ _ _ _ _ _ (by simp) (by simp) (fun k hm => by rw [List.mem_singleton.1 hm]; exact ih _ hk.1 (by omega))
    split
    · have h1 := hr _ hk.1
      have e1 := h1.2
      have h2 := Fewer.must h1.1 [32]
      have e2 := h2.2
      refine plain_short _ _ _ _ _ _ (by simp) (by simp) (fun k hm => ?_)
      rcases List.mem_cons.1 hm with e | hm
      · rw [e]; exact ih _ hk.1 (by omega)
      · rw [List.mem_singleton.1 hm]; exact ih _ h2.1 (by omega)
    split
    · have h1 := hr _ hk.1
      have e1 := h1.2
      refine plain_short _ _ _ _ _ _ (by simp) (by have := (Fewer.kids hr hk.1).2; omega) (fun k hm => ?_)
      unfold kidsF at hm
      rcases List.mem_cons.1 hm with e | hm
      · rw [e]; exact ih _ hk.1 (by omega)
      · exact more_short hr (fun a h1 h2 => ih a h1 h2) _ _ h1.1 (by omega) k hm
    · exact plain_short _ _ _ _ _ _ (by simp) (by simp) (by simp)
theorem short_top (a : RS) (h : a.Ok) (hl : a.l.length ≤ 4000) {k : KT} (hk : bareK k = (readTop a).1) : ShortN 5000 k := by
  rw [← shortN_bare, hk]
  unfold readTop
  split
  · exact short_read 16 a h hl
  · exact plain_short _ _ _ _ _ _ (by simp) (by simp) (by simp)
set_option maxRecDepth 100000 in
set_option maxHeartbeats 2000000 in
theorem same_pairs_c (p q : Option Addr) (cu cv : Nat) (l : List (Nat × Nat)) (hl : l.length ≤ 1000) (w : World) (h1 : PairsAt w q l) (h2 : PairsAt w p l) :
    Calls Tryz.prog 33 #[.slice q l.length cv, .slice p l.length cu] w fun e w' => e = .returned (.bool true) ∧ ∃ n, w' = w.drewN n := by
  obtain ⟨N, hN⟩ : ∃ N, N = l.length := ⟨_, rfl⟩
  rw [← hN] at hl ⊢
  have H1 := Lib.hid h1
  have H2 := Lib.hid h2
  have HN := Lib.hid hN
  clear h1 h2 hN
  go_enter Tryz.func33, Tryz.ntmps33
  go_wp2_with fail
  go_loopw [5] (fun t5 wr => ∃ k : Nat, k ≤ N ∧ t5 = .int .i64 k ∧ Hid (∃ n, wr = w.drewN n)) (fun i _ => N - (intOf i).toNat)
  case atStart => exact ⟨0, by omega, rfl, 0, rfl⟩
  case round =>
    obtain ⟨k, hk, rfl, HW⟩ := hrel
    by_cases hlt : k < N
    · have hkl : k < l.length := by rw [← HN.out]; exact hlt
      obtain ⟨x, y, hxy⟩ : ∃ x y, l[k] = (x, y) := ⟨_, _, rfl⟩
      have hq1 : (k : Int) < N := by omega
      have o1 : PairsAt wr q l := by obtain ⟨n, hn⟩ := HW.out; rw [hn]; exact H1.out
      have o2 : PairsAt wr p l := by obtain ⟨n, hn⟩ := HW.out; rw [hn]; exact H2.out
      obtain ⟨g, off1, rfl, _, k0, k1⟩ := o1 k (x, y) (by rw [List.getElem?_eq_getElem hkl, hxy])
      obtain ⟨b, off, rfl, _, k2, k3⟩ := o2 k (x, y) (by rw [List.getElem?_eq_getElem hkl, hxy])
      dsimp only at k0 k1 k2 k3
      clear o1 o2 hxy hkl
      go_wp2_with fail
      go_quiet (fail)
      go_wp2_with fail
      go_roundw
      case rel =>
        refine ⟨k + 1, by omega, by go_num, ?_⟩
        obtain ⟨n, hn⟩ := HW.out
        exact ⟨n + nq, by rw [hn, World.drewN_drewN]⟩
      case measure => simp [intOf]; omega
    · obtain rfl : k = N := by omega
      go_wp2_with fail
      go_ret
      exact ⟨rfl, HW.out⟩
theorem RgV.other {a D : Nat} {wq : World} {val : KT → List Value} {c : Nat} {K : KT → World → Prop} {k : KT} {L : Nat → Bool} {vs : Nat → Value} {w : World} (h : RgV a D wq val c K k L vs w) {j : Nat} {v : Value} (hj : j < a) : RgV a D wq val c K k L (upV vs j v) w :=
  ⟨h.b, fun i hi => by unfold upV; rw [if_neg (by omega)]; exact h.l i hi, h.k⟩
end Go.Proofs.YtpnnchpaaopdcaaGreatDoor

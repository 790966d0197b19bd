/-
  All messages of a tree, in a row.
-/
import Derived.Test.YtdelhpogacccjaaTrI5
import Derived.Test.YtdelhpogacccjaaTrI6
import Derived.Maps.OwnIn
set_option linter.unusedVariables false
set_option linter.unusedSimpArgs false
namespace Go.Proofs.Ytdelhpogacccjaa
open Go Go.RowKit
attribute [local go_sem] Oper.semAt_some wide_fn' wide_depth'
variable {W W' : World}

theorem own_same7 {A B : World} {base e size n : Nat} {v : Value} {xs : List Value} (h : A.ownsRow base e size v n xs) (hp : ∀ k, v.ownBlock = some k → B.heap[k]? = A.heap[k]?) : B.ownsRow base e size v n xs := by
  refine ⟨h.1, ?_⟩
  rcases h.2 with hn | ⟨g, cap, cur, rfl, hg, hgg, rest⟩
  · exact .inl hn
  · exact .inr ⟨g, cap, cur, rfl, hg, (hp g rfl).trans hgg, rest⟩
theorem own_cells7 {A : World} {base e size n : Nat} {v : Value} {xs : List Value} (h : A.ownsRow base e size v n xs) {k : Nat} (hk : v.ownBlock = some k) : ∃ cur, A.heap[k]? = some (.cells cur e (0, 0)) := by
  rcases h.2 with ⟨rfl, _⟩ | ⟨g, cap, cur, rfl, hg, hgg, rest⟩
  · cases hk
  · cases hk; exact ⟨cur, hgg⟩
theorem own_itself {A B : World} {T0 : TypeId → Prop} {D base e size n : Nat} {v : Value} {xs : List Value} (h : A.ownsRow base e size v n xs) (he : ¬ T0 e) (hi : Itself T0 D A B) : B.ownsRow base e size v n xs :=
  own_same7 h fun k hk => by
    obtain ⟨cur, hc⟩ := own_cells7 h hk
    exact (hi.same k _ _ _ he hc).trans hc.symm
/-- append onto a row of one's own, as a step of a region that draws, in a round. -/
theorem stepIn_append_own {F : Fence} {nF : Nat} {P : Program} {ops : Array Oper} {o : Oper} {a : Act} {w : World} {K : Act → World → Prop} {Q : Exit → Act → World → Prop} {E : Prop} (hgd : o.guard = none) (s x : Operand) (t : TypeId)
    (ho : o.op = .call { callee := .builtin .append, args := #[s, x], argTypes := #[t, t] })
    (base : Nat) (e : TypeId) (i : TypeInfo) (z : Value) (size bytes : Nat) (ht : P.underlying t = some (.slice e)) (hi : P.info? e = some i) (hz : i.zero = some z)
    (hsize : i.size = size) (hby : i.bytes = bytes) (hzs : z.cells.size = size) (hsz : 0 < size)
    (v : Value) (n : Nat) (xs : List Value) (hs : a.eval s = v) (hown : w.ownsRow base e size v n xs)
    (ad : Addr) (m c : Nat) (news : List Value) (hx : a.eval x = .slice (some ad) m c) (hl : news.length = m * size) (hnews : ∀ j u, news[j]? = some u → w.cell? (ad.add j) = some u) (h1 : ∀ u ∈ news, u.oneCell' = true)
    (h63 : n + m ≤ maxLen) (hbytes : (n + m) * bytes ≤ 140737488355328) (hbase : base ≤ w.heap.size)
    (h : ∀ v' w', w'.ownsRow base e size v' (n + m) (xs ++ news) → w.grownBy w' v.ownBlock → (v'.ownBlock = v.ownBlock ∨ v'.ownBlock = some w.heap.size) → K (a.put o.dst v') w') :
    if Region.wanted o (yielded ops a.tmps) = true then Oper.wpIn F nF P o a w K Q else E := by
  have hw : Region.wanted o (yielded ops a.tmps) = true := by simp [Region.wanted, hgd]
  rw [if_pos hw]
  obtain ⟨v', w', hr, h2, h3, h4, h5⟩ := run_append_own_at (P := P) w base t o.type e i z size bytes ht hi hz hsize hby hzs hsz v n xs hown ad m c news hl hnews h1 h63 hbytes hbase
  unfold Oper.wpIn
  refine ⟨by simp [Oper.about, ho, resolve, Target.leads, Sem.run_pure], ?_⟩
  rw [Oper.semAt_plain F _ _ (by rw [ho]; intro c hc'; cases hc')]
  simp [execOp, ho, resolve, invoke, builtin, hs, hx, hr, Result.andThen]
  exact h v' w' h2 h3 h5

/-- What All has while it walks. -/
structure AllI (B : Nat) (W : World) (most : Int) (pre : List R7) (o : Value) (X : World) : Prop where
  out : Boxed X (B + 1 + 1 + 1 + 1 + 1 + 1) 22 o
  row : X.ownsRow (B + 7) 50 3 o pre.length (cellsR pre)
  mo : Boxed X (B + 1) 3 (.int .i64 most)
  be : Below B W X
  r1 : Boxed X (B + 1 + 1) 22 (.slice none 0 0)
  r2 : Boxed X (B + 1 + 1 + 1) 4 (.bool false)
theorem AllI.itself {B : Nat} {most : Int} {pre : List R7} {o : Value} {X Y : World} {T0 : TypeId → Prop} (h : AllI B W most pre o X) (he : ¬ T0 50) (hi : Itself T0 (B + 7) X Y) : AllI B W most pre o Y :=
  ⟨hi.boxed h.out (.inl (by omega)), own_itself h.row he hi, hi.boxed h.mo (.inl (by omega)), h.be.trans (hi.toBelow.mono (by omega)), hi.boxed h.r1 (.inl (by omega)), hi.boxed h.r2 (.inl (by omega))⟩
theorem AllI.below {B : Nat} {most : Int} {pre : List R7} {o : Value} {X Y : World} (h : AllI B W most pre o X) (hb : Below X.heap.size X Y) (hB : B ≤ X.heap.size) : AllI B W most pre o Y :=
  ⟨(hb.block _ (lt_of_block h.out)).trans h.out, own_below h.row hb, (hb.block _ (lt_of_block h.mo)).trans h.mo, h.be.trans (hb.mono hB), (hb.block _ (lt_of_block h.r1)).trans h.r1, (hb.block _ (lt_of_block h.r2)).trans h.r2⟩
theorem AllI.kept {B : Nat} {most : Int} {pre : List R7} {o : Value} {X Y : World} (h : AllI B W most pre o X) (hg : X.grownBy Y o.ownBlock) : Boxed Y (B + 1 + 1 + 1 + 1 + 1 + 1) 22 o :=
  (hg.block _ (lt_of_block h.out) (fun e => by
    rcases h.row.2 with ⟨rfl, _⟩ | ⟨g, cap, cur, rfl, hg2, _⟩
    · cases e
    · have e2 : B + 1 + 1 + 1 + 1 + 1 + 1 = g := by cases e; rfl
      omega)).trans h.out
theorem AllI.keeps {B D : Nat} {most : Int} {pre : List R7} {v o : Value} {W2 X Y : World} (h : AllI B W most pre o X) (hD : D = B + 7) (hk : Keeps (fun e => e = 50) (scap (B + 1 + 1 + 1 + 1 + 1) (B + 1 + 1 + 1 + 1) v) D W2 X) (hg : X.grownBy Y o.ownBlock) (hv : ∀ k, v.ownBlock = some k → k < B) (v' : Value) :
    Keeps (fun e => e = 50) (scap (B + 1 + 1 + 1 + 1 + 1) (B + 1 + 1 + 1 + 1) v) D W2 (Y.setCell ⟨B + 1 + 1 + 1 + 1 + 1 + 1, 0, none⟩ v') := by
  have nc : ∀ k, B + 6 ≤ k → ¬ scap (B + 1 + 1 + 1 + 1 + 1) (B + 1 + 1 + 1 + 1) v k := fun k hk hc => by
    rcases hc with hc | hc | hc
    · omega
    · omega
    · have := hv k hc; omega
  refine (hk.trans ⟨hg.size, fun k ob hob hp => (hg.block k (Array.getElem?_eq_some_iff.1 hob).1 (fun e => ?_)).trans hob⟩).trans (Keeps.setCell _ Y ⟨B + 1 + 1 + 1 + 1 + 1 + 1, 0, none⟩ v' (nc (B + 1 + 1 + 1 + 1 + 1 + 1) (by omega)) (by show B + 1 + 1 + 1 + 1 + 1 + 1 < D; omega))
  rcases h.row.2 with ⟨rfl, _⟩ | ⟨g, cap, cur, rfl, hg2, hgg, _⟩
  · cases e
  · have e2 : k = g := by cases e; rfl
    subst e2
    rw [hgg] at hob
    cases hob
    rcases hp with hp | hp
    · exact nc k (by omega) hp
    · exact hp.2 _ _ _ rfl rfl
theorem AllI.grow {B : Nat} {most : Int} {pre : List R7} {x : R7} {o o' : Value} {X Y : World} (h : AllI B W most pre o X) (hg : X.grownBy Y o.ownBlock) (hr : Y.ownsRow (B + 7) 50 3 o' (pre.length + 1) (cellsR pre ++ [.int .u32 x.uid, .int .u8 x.fl, .string x.tx])) (hB : B ≤ X.heap.size) :
    AllI B W most (pre ++ [x]) o' (Y.setCell ⟨B + 1 + 1 + 1 + 1 + 1 + 1, 0, none⟩ o') := by
  have ne : ∀ k, k < B + 7 → some k ≠ o.ownBlock := fun k hk e => by
    rcases h.row.2 with ⟨rfl, _⟩ | ⟨g, cap, cur, rfl, hg, _⟩
    · cases e
    · have e2 : k = g := by cases e; rfl
      omega
  have keep : ∀ k t u, k < B + 7 → Boxed X k t u → Boxed Y k t u := fun k t u hk hb => (hg.block k (lt_of_block hb) (ne k hk)).trans hb
  have b1 := keep _ _ _ (by omega) h.out
  refine ⟨b1.set o', ?_, (keep _ _ _ (by omega) h.mo).other (by omega) _, ?_, (keep _ _ _ (by omega) h.r1).other (by omega) _, (keep _ _ _ (by omega) h.r2).other (by omega) _⟩
  · rw [List.length_append, List.length_singleton, cellsR_app, show cellsR [x] = [.int .u32 x.uid, .int .u8 x.fl, .string x.tx] from rfl]
    exact own_same7 hr fun k hk => by
      refine Below.heap_setCell Y _ _ k ?_
      rcases hr.2 with ⟨rfl, _⟩ | ⟨g, cap, cur, rfl, hg, _⟩
      · cases hk
      · have e2 : g = k := by cases hk; rfl
        show k ≠ B + 1 + 1 + 1 + 1 + 1 + 1
        omega
  · refine h.be.trans (Below.setCell (p := ⟨B + 1 + 1 + 1 + 1 + 1 + 1, 0, none⟩) ⟨hg.os, hg.tape, hg.output, hg.size, fun k hk => hg.block k (by omega) (ne k (by omega))⟩ (by show B ≤ B + 1 + 1 + 1 + 1 + 1 + 1; omega) _)

set_option maxRecDepth 100000 in
set_option maxHeartbeats 2000000 in
theorem all7_c {v : Value} {ns : List TN} {r : Int} {H : Nat} {l : List R7} (hsh : ShelfRow W v ns) (hvb : ∀ k, v.ownBlock = some k → k < W.heap.size) (hT : TreeOf ns r H l) (hns : ns.length ≤ 100000) (hnd : ((preN ns H r).map Prod.fst).Nodup) (hn : (preN ns H r).length ≤ 100000)
    (hre : recsOf (preN ns H r) = l) (most : Nat) (hmo : l.length ≤ most) (hm9 : l.length ≤ 100000) :
    Calls Try.prog 9 #[iS v, .agg #[.int .i64 r, .int .i64 H], .int .i64 most] W fun e w' => ∃ o, e = .returned (.tuple #[o, .bool true]) ∧ RecRow w' o l ∧ Below W.heap.size W w' := by
  refine (callsIn_wide (n := 3)).1 ?_
  refine callsIn_of_wp_marks Try.func9 rfl trivial ?_
  simp only [Try.ntmps9, List.size_toArray, List.length_cons, List.length_nil, Nat.reduceAdd, Nat.reduceSub, Array.replicate_succ, Array.replicate_zero, List.push_toArray, List.append_toArray, List.nil_append, List.cons_append]
  refine wpIn_wide.2 ?_
  have HIT := Lib.hid (fun bt bs => walk7_iter bt bs v ns r H l hT hns hnd hn)
  have HSH := Lib.hid hsh
  have HVB := Lib.hid hvb
  have HRE := Lib.hid hre
  have HMO := Lib.hid hmo
  have HM9 := Lib.hid hm9
  have hnf : ∀ (b c : Nat) w, (binOp .eql 47 (.func (.func 31) #[] #[.pointer (some ⟨b, 0, none⟩), .pointer (some ⟨c, 0, none⟩)]) Value.nilFunc).run Try.prog w = .ok (.bool false) w := fun b c w => by kernel_rfl
  clear hsh hvb hT hns hnd hn hre hmo hm9
  go_wp2_with (go_at_call 12; refine (tWalk_c v r H).mono ?_; rintro e w' ⟨rfl, rfl⟩)
  clear hnf
  obtain ⟨B, hB⟩ : ∃ B, W.heap.size = B := ⟨_, rfl⟩
  rw [hB]
  have h0 : ∃ W0, ((((((W.alloc (.cells #[.int .i64 r, .int .i64 H] 27)).alloc (.cells #[.int .i64 most] 3)).alloc (.cells #[.slice none 0 0] 22)).alloc (.cells #[.bool false] 4)).alloc (.cells #[.int .i64 r, .int .i64 H] 27)).alloc (.cells #[iS v] 82)).alloc (.cells #[.slice none 0 0] 22) = W0 ∧
      AllI B W most [] (.slice none 0 0) W0 ∧ TB W0 (B + 1 + 1 + 1 + 1) r H ∧ Boxed W0 (B + 1 + 1 + 1 + 1 + 1) 82 (iS v) ∧ W0.heap.size = B + 7 := by
    refine ⟨_, rfl, ⟨?_, ?_, ?_, ?_, ?_, ?_⟩, ?_, ?_, ?_⟩
    · exact Boxed.atNew _ _ _ _ (by simp [hB])
    · exact ⟨rfl, .inl ⟨rfl, rfl⟩⟩
    · exact (((((Boxed.atNew (W.alloc (.cells #[.int .i64 r, .int .i64 H] 27)) 3 (.int .i64 most) (B + 1) (by simp [hB])).alloc _).alloc _).alloc _).alloc _).alloc _
    · rw [← hB]
      exact (((((((Below.refl _ _).alloc (Nat.le_refl _) _).alloc (by simp) _).alloc (by simp; omega) _).alloc (by simp; omega) _).alloc (by simp; omega) _).alloc (by simp; omega) _).alloc (by simp; omega) _
    · exact ((((Boxed.atNew ((W.alloc (.cells #[.int .i64 r, .int .i64 H] 27)).alloc (.cells #[.int .i64 most] 3)) 22 (.slice none 0 0) (B + 1 + 1) (by simp [hB])).alloc _).alloc _).alloc _).alloc _
    · exact (((Boxed.atNew (((W.alloc (.cells #[.int .i64 r, .int .i64 H] 27)).alloc (.cells #[.int .i64 most] 3)).alloc (.cells #[.slice none 0 0] 22)) 4 (.bool false) (B + 1 + 1 + 1) (by simp [hB])).alloc _).alloc _).alloc _
    · have h := TB.new ((((W.alloc (.cells #[.int .i64 r, .int .i64 H] 27)).alloc (.cells #[.int .i64 most] 3)).alloc (.cells #[.slice none 0 0] 22)).alloc (.cells #[.bool false] 4)) r H
      have e : ((((W.alloc (.cells #[.int .i64 r, .int .i64 H] 27)).alloc (.cells #[.int .i64 most] 3)).alloc (.cells #[.slice none 0 0] 22)).alloc (.cells #[.bool false] 4)).heap.size = B + 1 + 1 + 1 + 1 := by simp [hB]
      rw [e] at h
      exact (Below.heap_alloc _ _ _ (by simp [hB])).trans ((Below.heap_alloc _ _ _ (by simp [hB])).trans h)
    · exact (Boxed.atNew (((((W.alloc (.cells #[.int .i64 r, .int .i64 H] 27)).alloc (.cells #[.int .i64 most] 3)).alloc (.cells #[.slice none 0 0] 22)).alloc (.cells #[.bool false] 4)).alloc (.cells #[.int .i64 r, .int .i64 H] 27)) 82 (iS v) (B + 1 + 1 + 1 + 1 + 1) (by simp [hB])).alloc _
    · simp [hB]
  obtain ⟨W0, hW0, hi0, bT, bS, hsz⟩ := h0
  rw [hW0]
  have HBW := Lib.hid hB
  have HBE := Lib.hid hi0.be
  clear hW0 hB
  refine (wpIn_wide (n := 3)).1 ?_
  refine wpIn_rangeIterL (gf := 31) (lb := #[.pointer (some ⟨B + 1 + 1 + 1 + 1, 0, none⟩), .pointer (some ⟨B + 1 + 1 + 1 + 1 + 1, 0, none⟩)]) rfl (enters_of Try.func31 (by kernel_rfl) rfl) (HIT.out (B + 1 + 1 + 1 + 1) (B + 1 + 1 + 1 + 1 + 1)) (fun e => e = 50) (fun e h hx => by subst h; revert hx; unfold wT0 sT0 fT0; decide) (fun _ => rfl)
    (fun k hk => by
      rcases hk with rfl | rfl | hk
      · omega
      · omega
      · have h1 := HVB.out k hk; have h2 := HBW.out; omega) (fun W' hW' => ⟨⟨(hW'.block _ (by omega)).trans bS, (hW'.block _ (by omega)).trans bT, (HSH.out.below (by rw [HBW.out]; exact HBE.out)).below hW'⟩, fun k hk => by have h1 := HVB.out k hk; have h2 := HBW.out; have h3 := hW'.size; omega⟩)
    (fun pre X => ∃ o, AllI B W most pre o X) (fun c pre X => False)
    (fun s' X Y h hXY => by
      obtain ⟨o, h⟩ := h
      rw [hsz] at hXY
      exact ⟨o, h.itself (by unfold wT0 sT0 fT0; decide) hXY⟩)
    (fun c s' X Y h hXY => h) ⟨_, hi0⟩ ?round ?done ?stop
  case round =>
    rintro l2 pre x W1 hl ⟨rl, hrl⟩ ⟨o, hi⟩ hst
    obtain ⟨u, f, t⟩ := x
    simp only [rV]
    have hlt2 : l2 < W1.heap.size := (Array.getElem?_eq_some_iff.1 hrl).1
    have hT := Tri.new W1 40 (.int .u32 u) (.int .u8 f) (.string t)
    have hsW := lt_of_block hi.out
    gi_wp2
    refine ⟨Keeps.alloc _ _ _ _ _, fun W2 hits hsz2 hrec hoth => ?_⟩
    rw [hsz] at hits
    have hX : Itself wT0 (B + 7) W1 W2 := (Itself.alloc _ W1 _ (by omega)).trans hits
    have hi2 : AllI B W most pre o W2 := hi.itself (by unfold wT0 sT0 fT0; decide) hX
    have hT2 : Tri W2 W1.heap.size 40 (.int .u32 u) (.int .u8 f) (.string t) := hT.later (hoth _ (by omega))
    obtain ⟨ad, cp, ho⟩ := own_form hi2.row
    obtain ⟨n, hn⟩ : ∃ n, pre.length = n := ⟨_, rfl⟩
    rw [hn] at ho
    subst ho
    have hlt : n + 1 ≤ l.length := by
      have h1 := hst.length_le
      rw [HRE.out] at h1
      simp [hn] at h1
      exact h1
    have hW2 : B + 7 ≤ W2.heap.size := by
      have := lt_of_block hi2.out
      have h3 : W1.heap.size < W2.heap.size := hT2.lt
      omega
    have q : ¬ (most : Int) < n := by have := HMO.out; omega
    have kO := hi2.out.cell
    have kM := hi2.mo.cell
    have kD : W2.drew.cell? ⟨B + 1 + 1 + 1 + 1 + 1 + 1, 0, none⟩ = some (.slice ad n cp) := kO
    obtain ⟨t0, t1, t2, _, _, _⟩ := hT2.cell
    have u0 : W2.drew.cell? ⟨W1.heap.size, 0, none⟩ = some (.int .u32 u) := t0
    have u1 : W2.drew.cell? ⟨W1.heap.size, 1, none⟩ = some (.int .u8 f) := t1
    have u2 : W2.drew.cell? ⟨W1.heap.size, 2, none⟩ = some (.string t) := t2
    have HB7 := Lib.hid (fun w => back7_c ⟨u, f, t⟩ w)
    unfold rV at HB7
    have hiD : AllI B W most pre (.slice ad n cp) W2.drew := hi2.below (Below.refl _ _).drew (by omega)
    have HK3 : Hid (∀ w3, Below W2.drew.heap.size W2.drew w3 → w3.cell? ⟨B + 1 + 1 + 1 + 1 + 1 + 1, 0, none⟩ = some (.slice ad n cp) ∧ (w3.alloc (.cells #[.int .u32 u, .int .u8 f, .string t] 50)).cell? ⟨B + 1 + 1 + 1 + 1 + 1 + 1, 0, none⟩ = some (.slice ad n cp)) := fun w3 hb => by
      have h1 := (hiD.below hb (by show B ≤ W2.heap.size; omega)).out
      exact ⟨h1.cell, (h1.alloc _).cell⟩
    have HID := Lib.hid hiD
    have HN := Lib.hid hn
    have HLT := Lib.hid hlt
    clear hiD hi2 hX hT2 hits hsz2 hrec hoth hi hT hrl hst t0 t1 t2 hn hlt
    gi_wp2_with fail
    clear kO kM q
    refine wpIn_region_any (by kernel_rfl) ?_
    change wpAnyIn _ _ _ _ _ _ _ _ _ (World.drew _)
    refine wpAnyIn_ready (rs := [0, 1]) (by kernel_rfl) (by simp) ?_
    refine AllReadyIn.cons rfl (fun K hK => ?_) (AllReadyIn.cons rfl (fun K hK => ?_) AllReadyIn.nil)
    · go_simp
      refine hK _ _ ?_
      clear hK K
      refine wpAnyIn_ready (rs := [1]) (by kernel_rfl) (by simp) ?_
      refine AllReadyIn.cons rfl (fun K hK => ?_) AllReadyIn.nil
      go_simp
      refine hK _ _ ?_
      clear hK K
      refine wpAnyIn_ready (rs := [2]) (by kernel_rfl) (by simp) ?_
      refine AllReadyIn.cons rfl (fun K hK => ?_) AllReadyIn.nil
      go_simp
      refine CallsIn.wrT (HB7.out _) ?_
      rintro e w3 ⟨rfl, hb3⟩
      obtain ⟨kO3, kO4⟩ := HK3.out _ hb3
      have HB3 := Lib.hid hb3
      clear hb3
      go_simp
      refine hK _ _ ?_
      clear hK K
      refine wpAnyIn_ready (rs := [3]) (by kernel_rfl) (by simp) ?_
      refine AllReadyIn.cons rfl (fun K hK => ?_) AllReadyIn.nil
      go_simp
      refine hK _ _ ?_
      clear hK K
      have hi4 := (HID.out.below HB3.out (by show B ≤ W2.heap.size; omega)).below ((Below.refl _ w3).alloc (Nat.le_refl _) (.cells #[.int .u32 u, .int .u8 f, .string t] 50)) (by have h := HB3.out.size; have h2 : W2.drew.heap.size = W2.heap.size := rfl; omega)
      have hw4 : (w3.alloc (.cells #[.int .u32 u, .int .u8 f, .string t] 50)).heap[w3.heap.size]? = _ := heap_alloc_new w3 _
      have HI4 := Lib.hid hi4
      clear kO3 kO4 hi4
      refine wpAnyIn_ready (rs := [4]) (by kernel_rfl) (by simp) ?_
      refine AllReadyIn.cons rfl (fun K hK => ?_) AllReadyIn.nil
      obtain ⟨j0, hj0, jz0, jz1, jz2⟩ := info_parts info7R
      refine stepIn_append_own rfl (.tmp 22) (.tmp 25) 22 rfl (B + 7) 50 j0 (.agg #[.int .u32 0, .int .u8 0, .string ⟨#[]⟩]) 3 24 Try.underlying22 hj0 jz0 jz1 jz2 rfl (by omega) (.slice ad n cp) n (cellsR pre) rfl (by have h := HI4.out.row; rw [HN.out] at h; exact h) ⟨w3.heap.size, 0, none⟩ 1 1 [.int .u32 u, .int .u8 f, .string t] rfl rfl (World.news_of_block (cs := #[.int .u32 u, .int .u8 f, .string t]) (t := 50) (fr := (0, 0)) hw4) (by simp [Value.oneCell']) (by have h := HLT.out; have h2 := HM9.out; unfold maxLen; omega) (by have h := HLT.out; have h2 := HM9.out; omega) (by have h := lt_of_block HI4.out.out; omega) ?_
      intro v' w' hr hg hob
      obtain ⟨ad5, cp5, rfl⟩ := own_form hr
      have hi5 := HI4.out.grow (x := ⟨u, f, t⟩) hg (by rw [HN.out]; exact hr) (by have h := lt_of_block HI4.out.out; omega)
      have bS := HI4.out.kept hg
      have kS := bS.cell
      have fS := bS.frozen
      have lS := lt_of_block bS
      have hkp : Keeps (fun e => e = 50) (scap (B + 1 + 1 + 1 + 1 + 1) (B + 1 + 1 + 1 + 1) v) W0.heap.size W2 (w'.setCell ⟨B + 1 + 1 + 1 + 1 + 1 + 1, 0, none⟩ (.slice ad5 (n + 1) cp5)) := HI4.out.keeps hsz (((Keeps.drew _ _ _ W2).trans (Keeps.of_below HB3.out)).trans (Keeps.alloc _ _ _ w3 _)) hg (fun k hk => by have h1 := HVB.out k hk; have h2 := HBW.out; omega) _
      have HI5 := Lib.hid hi5
      have HKP := Lib.hid hkp
      clear hi5 hkp hr hg hob hw4 bS j0 hj0 jz0 jz1 jz2
      refine hK _ _ ?_
      clear hK K
      refine wpAnyIn_ready (rs := [5]) (by kernel_rfl) (by simp) ?_
      refine AllReadyIn.cons rfl (fun K hK => ?_) AllReadyIn.nil
      go_simp
      refine hK _ _ ?_
      clear hK K
      refine wpAnyIn_done (by kernel_rfl) ?_ _
      exact ⟨HKP.out, _, HI5.out⟩
    · go_simp
      refine hK _ _ ?_
      clear hK K
      refine wpAnyIn_ready (rs := [0, 2]) (by kernel_rfl) (by simp) ?_
      refine AllReadyIn.cons rfl (fun K hK => ?_) (AllReadyIn.cons rfl (fun K hK => ?_) AllReadyIn.nil)
      · go_simp
        refine hK _ _ ?_
        clear hK K
        refine wpAnyIn_ready (rs := [2]) (by kernel_rfl) (by simp) ?_
        refine AllReadyIn.cons rfl (fun K hK => ?_) AllReadyIn.nil
        go_simp
        refine CallsIn.wrT (HB7.out _) ?_
        rintro e w3 ⟨rfl, hb3⟩
        obtain ⟨kO3, kO4⟩ := HK3.out _ hb3
        have HB3 := Lib.hid hb3
        clear hb3
        go_simp
        refine hK _ _ ?_
        clear hK K
        refine wpAnyIn_ready (rs := [3]) (by kernel_rfl) (by simp) ?_
        refine AllReadyIn.cons rfl (fun K hK => ?_) AllReadyIn.nil
        go_simp
        refine hK _ _ ?_
        clear hK K
        have hi4 := (HID.out.below HB3.out (by show B ≤ W2.heap.size; omega)).below ((Below.refl _ w3).alloc (Nat.le_refl _) (.cells #[.int .u32 u, .int .u8 f, .string t] 50)) (by have h := HB3.out.size; have h2 : W2.drew.heap.size = W2.heap.size := rfl; omega)
        have hw4 : (w3.alloc (.cells #[.int .u32 u, .int .u8 f, .string t] 50)).heap[w3.heap.size]? = _ := heap_alloc_new w3 _
        have HI4 := Lib.hid hi4
        clear kO3 kO4 hi4
        refine wpAnyIn_ready (rs := [4]) (by kernel_rfl) (by simp) ?_
        refine AllReadyIn.cons rfl (fun K hK => ?_) AllReadyIn.nil
        obtain ⟨j0, hj0, jz0, jz1, jz2⟩ := info_parts info7R
        refine stepIn_append_own rfl (.tmp 22) (.tmp 25) 22 rfl (B + 7) 50 j0 (.agg #[.int .u32 0, .int .u8 0, .string ⟨#[]⟩]) 3 24 Try.underlying22 hj0 jz0 jz1 jz2 rfl (by omega) (.slice ad n cp) n (cellsR pre) rfl (by have h := HI4.out.row; rw [HN.out] at h; exact h) ⟨w3.heap.size, 0, none⟩ 1 1 [.int .u32 u, .int .u8 f, .string t] rfl rfl (World.news_of_block (cs := #[.int .u32 u, .int .u8 f, .string t]) (t := 50) (fr := (0, 0)) hw4) (by simp [Value.oneCell']) (by have h := HLT.out; have h2 := HM9.out; unfold maxLen; omega) (by have h := HLT.out; have h2 := HM9.out; omega) (by have h := lt_of_block HI4.out.out; omega) ?_
        intro v' w' hr hg hob
        obtain ⟨ad5, cp5, rfl⟩ := own_form hr
        have hi5 := HI4.out.grow (x := ⟨u, f, t⟩) hg (by rw [HN.out]; exact hr) (by have h := lt_of_block HI4.out.out; omega)
        have bS := HI4.out.kept hg
        have kS := bS.cell
        have fS := bS.frozen
        have lS := lt_of_block bS
        have hkp : Keeps (fun e => e = 50) (scap (B + 1 + 1 + 1 + 1 + 1) (B + 1 + 1 + 1 + 1) v) W0.heap.size W2 (w'.setCell ⟨B + 1 + 1 + 1 + 1 + 1 + 1, 0, none⟩ (.slice ad5 (n + 1) cp5)) := HI4.out.keeps hsz (((Keeps.drew _ _ _ W2).trans (Keeps.of_below HB3.out)).trans (Keeps.alloc _ _ _ w3 _)) hg (fun k hk => by have h1 := HVB.out k hk; have h2 := HBW.out; omega) _
        have HI5 := Lib.hid hi5
        have HKP := Lib.hid hkp
        clear hi5 hkp hr hg hob hw4 bS j0 hj0 jz0 jz1 jz2
        refine hK _ _ ?_
        clear hK K
        refine wpAnyIn_ready (rs := [5]) (by kernel_rfl) (by simp) ?_
        refine AllReadyIn.cons rfl (fun K hK => ?_) AllReadyIn.nil
        go_simp
        refine hK _ _ ?_
        clear hK K
        refine wpAnyIn_done (by kernel_rfl) ?_ _
        exact ⟨HKP.out, _, HI5.out⟩
      · go_simp
        refine CallsIn.wrT (HB7.out _) ?_
        rintro e w3 ⟨rfl, hb3⟩
        obtain ⟨kO3, kO4⟩ := HK3.out _ hb3
        have HB3 := Lib.hid hb3
        clear hb3
        go_simp
        refine hK _ _ ?_
        clear hK K
        refine wpAnyIn_ready (rs := [0, 3]) (by kernel_rfl) (by simp) ?_
        refine AllReadyIn.cons rfl (fun K hK => ?_) (AllReadyIn.cons rfl (fun K hK => ?_) AllReadyIn.nil)
        · go_simp
          refine hK _ _ ?_
          clear hK K
          refine wpAnyIn_ready (rs := [3]) (by kernel_rfl) (by simp) ?_
          refine AllReadyIn.cons rfl (fun K hK => ?_) AllReadyIn.nil
          go_simp
          refine hK _ _ ?_
          clear hK K
          have hi4 := (HID.out.below HB3.out (by show B ≤ W2.heap.size; omega)).below ((Below.refl _ w3).alloc (Nat.le_refl _) (.cells #[.int .u32 u, .int .u8 f, .string t] 50)) (by have h := HB3.out.size; have h2 : W2.drew.heap.size = W2.heap.size := rfl; omega)
          have hw4 : (w3.alloc (.cells #[.int .u32 u, .int .u8 f, .string t] 50)).heap[w3.heap.size]? = _ := heap_alloc_new w3 _
          have HI4 := Lib.hid hi4
          clear kO3 kO4 hi4
          refine wpAnyIn_ready (rs := [4]) (by kernel_rfl) (by simp) ?_
          refine AllReadyIn.cons rfl (fun K hK => ?_) AllReadyIn.nil
          obtain ⟨j0, hj0, jz0, jz1, jz2⟩ := info_parts info7R
          refine stepIn_append_own rfl (.tmp 22) (.tmp 25) 22 rfl (B + 7) 50 j0 (.agg #[.int .u32 0, .int .u8 0, .string ⟨#[]⟩]) 3 24 Try.underlying22 hj0 jz0 jz1 jz2 rfl (by omega) (.slice ad n cp) n (cellsR pre) rfl (by have h := HI4.out.row; rw [HN.out] at h; exact h) ⟨w3.heap.size, 0, none⟩ 1 1 [.int .u32 u, .int .u8 f, .string t] rfl rfl (World.news_of_block (cs := #[.int .u32 u, .int .u8 f, .string t]) (t := 50) (fr := (0, 0)) hw4) (by simp [Value.oneCell']) (by have h := HLT.out; have h2 := HM9.out; unfold maxLen; omega) (by have h := HLT.out; have h2 := HM9.out; omega) (by have h := lt_of_block HI4.out.out; omega) ?_
          intro v' w' hr hg hob
          obtain ⟨ad5, cp5, rfl⟩ := own_form hr
          have hi5 := HI4.out.grow (x := ⟨u, f, t⟩) hg (by rw [HN.out]; exact hr) (by have h := lt_of_block HI4.out.out; omega)
          have bS := HI4.out.kept hg
          have kS := bS.cell
          have fS := bS.frozen
          have lS := lt_of_block bS
          have hkp : Keeps (fun e => e = 50) (scap (B + 1 + 1 + 1 + 1 + 1) (B + 1 + 1 + 1 + 1) v) W0.heap.size W2 (w'.setCell ⟨B + 1 + 1 + 1 + 1 + 1 + 1, 0, none⟩ (.slice ad5 (n + 1) cp5)) := HI4.out.keeps hsz (((Keeps.drew _ _ _ W2).trans (Keeps.of_below HB3.out)).trans (Keeps.alloc _ _ _ w3 _)) hg (fun k hk => by have h1 := HVB.out k hk; have h2 := HBW.out; omega) _
          have HI5 := Lib.hid hi5
          have HKP := Lib.hid hkp
          clear hi5 hkp hr hg hob hw4 bS j0 hj0 jz0 jz1 jz2
          refine hK _ _ ?_
          clear hK K
          refine wpAnyIn_ready (rs := [5]) (by kernel_rfl) (by simp) ?_
          refine AllReadyIn.cons rfl (fun K hK => ?_) AllReadyIn.nil
          go_simp
          refine hK _ _ ?_
          clear hK K
          refine wpAnyIn_done (by kernel_rfl) ?_ _
          exact ⟨HKP.out, _, HI5.out⟩
        · go_simp
          refine hK _ _ ?_
          clear hK K
          refine wpAnyIn_ready (rs := [0]) (by kernel_rfl) (by simp) ?_
          refine AllReadyIn.cons rfl (fun K hK => ?_) AllReadyIn.nil
          go_simp
          refine hK _ _ ?_
          clear hK K
          have hi4 := (HID.out.below HB3.out (by show B ≤ W2.heap.size; omega)).below ((Below.refl _ w3).alloc (Nat.le_refl _) (.cells #[.int .u32 u, .int .u8 f, .string t] 50)) (by have h := HB3.out.size; have h2 : W2.drew.heap.size = W2.heap.size := rfl; omega)
          have hw4 : (w3.alloc (.cells #[.int .u32 u, .int .u8 f, .string t] 50)).heap[w3.heap.size]? = _ := heap_alloc_new w3 _
          have HI4 := Lib.hid hi4
          clear kO3 kO4 hi4
          refine wpAnyIn_ready (rs := [4]) (by kernel_rfl) (by simp) ?_
          refine AllReadyIn.cons rfl (fun K hK => ?_) AllReadyIn.nil
          obtain ⟨j0, hj0, jz0, jz1, jz2⟩ := info_parts info7R
          refine stepIn_append_own rfl (.tmp 22) (.tmp 25) 22 rfl (B + 7) 50 j0 (.agg #[.int .u32 0, .int .u8 0, .string ⟨#[]⟩]) 3 24 Try.underlying22 hj0 jz0 jz1 jz2 rfl (by omega) (.slice ad n cp) n (cellsR pre) rfl (by have h := HI4.out.row; rw [HN.out] at h; exact h) ⟨w3.heap.size, 0, none⟩ 1 1 [.int .u32 u, .int .u8 f, .string t] rfl rfl (World.news_of_block (cs := #[.int .u32 u, .int .u8 f, .string t]) (t := 50) (fr := (0, 0)) hw4) (by simp [Value.oneCell']) (by have h := HLT.out; have h2 := HM9.out; unfold maxLen; omega) (by have h := HLT.out; have h2 := HM9.out; omega) (by have h := lt_of_block HI4.out.out; omega) ?_
          intro v' w' hr hg hob
          obtain ⟨ad5, cp5, rfl⟩ := own_form hr
          have hi5 := HI4.out.grow (x := ⟨u, f, t⟩) hg (by rw [HN.out]; exact hr) (by have h := lt_of_block HI4.out.out; omega)
          have bS := HI4.out.kept hg
          have kS := bS.cell
          have fS := bS.frozen
          have lS := lt_of_block bS
          have hkp : Keeps (fun e => e = 50) (scap (B + 1 + 1 + 1 + 1 + 1) (B + 1 + 1 + 1 + 1) v) W0.heap.size W2 (w'.setCell ⟨B + 1 + 1 + 1 + 1 + 1 + 1, 0, none⟩ (.slice ad5 (n + 1) cp5)) := HI4.out.keeps hsz (((Keeps.drew _ _ _ W2).trans (Keeps.of_below HB3.out)).trans (Keeps.alloc _ _ _ w3 _)) hg (fun k hk => by have h1 := HVB.out k hk; have h2 := HBW.out; omega) _
          have HI5 := Lib.hid hi5
          have HKP := Lib.hid hkp
          clear hi5 hkp hr hg hob hw4 bS j0 hj0 jz0 jz1 jz2
          refine hK _ _ ?_
          clear hK K
          refine wpAnyIn_ready (rs := [5]) (by kernel_rfl) (by simp) ?_
          refine AllReadyIn.cons rfl (fun K hK => ?_) AllReadyIn.nil
          go_simp
          refine hK _ _ ?_
          clear hK K
          refine wpAnyIn_done (by kernel_rfl) ?_ _
          exact ⟨HKP.out, _, HI5.out⟩
  case done =>
    rintro D xs W1 hD hS ⟨o, hi⟩ hK
    rw [HRE.out] at hS
    subst hS
    rw [hsz] at hD
    obtain ⟨n, hn⟩ : ∃ n, xs.length = n := ⟨_, rfl⟩
    obtain ⟨ad, cp, ho⟩ := own_form hi.row
    rw [hn] at ho
    subst ho
    have hb1 := hi.be
    have hrow := RecRow.of_own hi.row
    have x1 := hi.r1.set (.slice ad n cp)
    have x2 := hi.r2.other (show B + 1 + 1 + 1 ≠ B + 1 + 1 by omega) (.slice ad n cp)
    have y1 := x1.other (show B + 1 + 1 ≠ B + 1 + 1 + 1 by omega) (.bool true)
    have y2 := x2.set (.bool true)
    have hK1 : (W1.setCell ⟨B + 1 + 1, 0, none⟩ (.slice ad n cp)).heap[D]? = some (.deferred (some [])) := (Below.heap_setCell W1 ⟨B + 1 + 1, 0, none⟩ _ D (by show D ≠ B + 1 + 1; omega)).trans hK
    have hK2 : ((W1.setCell ⟨B + 1 + 1, 0, none⟩ (.slice ad n cp)).setCell ⟨B + 1 + 1 + 1, 0, none⟩ (.bool true)).heap[D]? = some (.deferred (some [])) := (Below.heap_setCell _ ⟨B + 1 + 1 + 1, 0, none⟩ _ D (by show D ≠ B + 1 + 1 + 1; omega)).trans hK1
    have hbz : Below B W ((W1.setCell ⟨B + 1 + 1, 0, none⟩ (.slice ad n cp)).setCell ⟨B + 1 + 1 + 1, 0, none⟩ (.bool true)) := (hb1.setCell (p := ⟨B + 1 + 1, 0, none⟩) (by show B ≤ B + 1 + 1; omega) _).setCell (p := ⟨B + 1 + 1 + 1, 0, none⟩) (by show B ≤ B + 1 + 1 + 1; omega) _
    have hown : ((W1.setCell ⟨B + 1 + 1, 0, none⟩ (.slice ad n cp)).setCell ⟨B + 1 + 1 + 1, 0, none⟩ (.bool true)).ownsRow (B + 7) 50 3 (.slice ad n cp) xs.length (cellsR xs) := own_same7 hi.row fun k hk => by
      have hkB : B + 7 ≤ k := by
        rcases hi.row.2 with ⟨h, _⟩ | ⟨g, cap, cur, h, hg2, _⟩
        · rw [h] at hk; cases hk
        · rw [h] at hk; have e2 : g = k := by cases hk; rfl
          omega
      exact (Below.heap_setCell _ ⟨B + 1 + 1 + 1, 0, none⟩ _ k (by show k ≠ B + 1 + 1 + 1; omega)).trans (Below.heap_setCell _ ⟨B + 1 + 1, 0, none⟩ _ k (by show k ≠ B + 1 + 1; omega))
    have hK3 := Lib.hid hK2
    have HBZ := Lib.hid hbz
    have hOW := Lib.hid hown
    have kO := hi.out.cell
    have k1 := hi.r1.cell
    have k2 := hi.r2.cell
    have f1 := hi.r1.frozen
    have f2 := hi.r2.frozen
    have k3 := x2.cell
    have f3 := x2.frozen
    have l1 := lt_of_block hi.r1
    have l2 := lt_of_block hi.r2
    have hY1 := Lib.hid y1.cell
    have hY2 := Lib.hid y2.cell
    clear hi hK hK1 hK2 hbz hown y1 y2 x1 x2 hrow hb1
    go_wp2_with fail
    refine ⟨by simp, .inl ⟨_, _, rfl, run_takeDeferred hK3.out, ?_⟩⟩
    have c1 := cell_kept hY1.out (grownBy_putObj' _ D (.deferred none)) (fun r e => by cases e; exact ⟨_, hK3.out, rfl⟩)
    have c2 := cell_kept hY2.out (grownBy_putObj' _ D (.deferred none)) (fun r e => by cases e; exact ⟨_, hK3.out, rfl⟩)
    refine ⟨.tuple #[.slice ad n cp, .bool true], ?_, _, rfl, RecRow.of_own (own_same7 hOW.out fun k hk => World.putObj_heap_other ?_), ?_⟩
    · simp [results, Try.f9, go_sem, c1, c2]
    · intro e
      subst e
      obtain ⟨cur, hc⟩ := own_cells7 hOW.out hk
      rw [hK3.out] at hc
      cases hc
    · have h1 := HBW.out
      rw [h1]
      exact HBZ.out.trans (belowK_b (w := W) (by omega) _ D _ _ (by omega) hK3.out rfl rfl)
  case stop =>
    rintro D c pre W1 hD hS hf hK
    exact hf.elim
end Go.Proofs.Ytdelhpogacccjaa

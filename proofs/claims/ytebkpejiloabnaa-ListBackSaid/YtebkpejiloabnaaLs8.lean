/-
  A list behind notes, by the document: contract.
-/
import Derived.Test.YtebkpejiloabnaaLs7
set_option linter.unusedVariables false
set_option linter.unusedSimpArgs false
namespace Go.Proofs.Ytebkpejiloabnaa
open Go Go.RowKit
variable {W W' : World} {v va vb : Value} {l now : List EL}

theorem own_base {w : World} {b b' e size n : Nat} {v : Value} {xs : List Value} (h : w.ownsRow b e size v n xs) (hb : b' ≤ b) : w.ownsRow b' e size v n xs := by
  refine ⟨h.1, ?_⟩
  rcases h.2 with hn | ⟨g, cap, cur, rfl, hg, rest⟩
  · exact .inl hn
  · exact .inr ⟨g, cap, cur, rfl, by omega, rest⟩
def lenV : Value → Nat
  | .slice _ n _ => n
  | _ => 0
def RPlayP (W : World) (R : Option (List EL)) (e : Ending) (w' : World) : Prop :=
  Below W.heap.size W w' ∧ match R with
  | none => e = .returned (.tuple #[.slice none 0 0, .int .i64 3])
  | some m => ∃ v, e = .returned (.tuple #[v, .int .i64 0]) ∧ w'.ownsRow W.heap.size 40 2 v m.length (cellsK encE m)
theorem zerosRE (m : Nat) : (List.replicate m (Value.agg #[.int .u32 0, .int .u8 0]).cells.toList).flatten = cellsK encE (List.replicate m noE) := zerosE m
theorem erase_take {m : List EL} {i k : Nat} {r : EL} (hr : m[k]? = some r) : (m.take (k + 1)).eraseIdx i = if k = i then (m.take k).eraseIdx i else (m.take k).eraseIdx i ++ [r] := by
  have hk := (List.getElem?_eq_some_iff.1 hr).1
  have hlen : (m.take k).length = k := by rw [List.length_take]; omega
  rw [take_at' hr]
  by_cases h1 : i < k
  · rw [if_neg (by omega)]
    exact List.eraseIdx_append_of_lt_length (by rw [hlen]; exact h1) [r]
  · have e1 := List.eraseIdx_append_of_length_le (l := m.take k) (k := i) (by rw [hlen]; omega) [r]
    have e2 := List.eraseIdx_of_length_le (l := m.take k) (k := i) (by rw [hlen]; omega)
    rw [e1, e2, hlen]
    by_cases h2 : k = i
    · rw [if_pos h2, h2, Nat.sub_self]; simp
    · rw [if_neg h2, List.eraseIdx_of_length_le (by simp; omega)]

section
variable {P : Program} (w : World) {α : Type} {enc : α → List Value}
/-- 'append(s, xs...)' onto a row that is one's own, of a row that is read (a nil one too). -/
theorem wpList_append_rowK {ops : Array Oper} {rest : List Oper} {o : Oper} {a : Act} {Q : Exit → Act → World → Prop} (hgd : o.guard = none) (s x : Operand) (t : TypeId)
    (ho : o.op = .call { callee := .builtin .append, args := #[s, x], argTypes := #[t, t] })
    (base : Nat) (e : TypeId) (i : TypeInfo) (z : Value) (size bytes : Nat) (ht : P.underlying t = some (.slice e)) (hi : P.info? e = some i) (hz : i.zero = some z)
    (hsize : i.size = size) (hby : i.bytes = bytes) (hzs : z.cells.size = size) (hsz : 0 < size)
    (v : Value) (n : Nat) (xs : List Value) (hs : a.eval s = v) (hown : w.ownsRow base e size v n xs)
    (xv : Value) (l : List α) (m : Nat) (hm : l.length = m) (hx : a.eval x = xv) (hrow : RowK size enc w xv l) (hk : ∀ y, (enc y).length = size) (h1 : ∀ u ∈ cellsK enc l, u.oneCell' = true)
    (h63 : n + m ≤ maxLen) (hbytes : (n + m) * bytes ≤ 140737488355328) (hbase : base ≤ w.heap.size)
    (h : ∀ v' w', w'.ownsRow base e size v' (n + m) (xs ++ cellsK enc l) → w.grownBy w' v.ownBlock → (v'.ownBlock = v.ownBlock ∨ v'.ownBlock = some w.heap.size) → wpList P ops Q rest (a.put o.dst v') w') :
    wpList P ops Q (o :: rest) a w := by
  rcases hrow with ⟨rfl, rfl⟩ | ⟨ad, cap, rfl, hc⟩
  · refine wpList_plain hgd fun K hK => ?_
    have hr := run_append_owned_none (P := P) w base t o.type e i size ht hi v n xs hown
    unfold Oper.wp execOp
    simp only [ho, resolve, invoke, builtin, Sem.run_bind, Sem.run_pure, Result.andThen_ok, List.map_toArray, List.map_cons, List.map_nil, hs, hx, hr]
    have hm0 : m = 0 := by rw [← hm]; rfl
    subst hm0
    exact hK _ _ (h v w (by rw [Nat.add_zero]; simpa [cellsK] using hown) (World.grownBy.refl w _) (.inl rfl))
  · rw [hm] at hx
    have hrow : RowK size enc w (.slice (some ad) m cap) l := .inr ⟨ad, cap, by rw [hm], hc⟩
    refine wpList_append_own_at w hgd s x t ho base e i z size bytes ht hi hz hsize hby hzs hsz v n xs hs hown ad m cap (cellsK enc l) hx (by rw [cellsK_len hk, hm]) (RowK.news hk hsz hrow) h1 h63 hbytes hbase fun v' w' h2 h3 _ h5 => h v' w' h2 h3 h5
end

set_option maxRecDepth 100000 in
set_option maxHeartbeats 16000000 in
theorem rPlay_c {nv : Value} {ns : List NL} (hl : EntRow W v l) (hn : NoteRow W nv ns) (hb : ∀ n ∈ ns, -9223372036854775808 ≤ n.seq ∧ n.seq ≤ 9223372036854775807) (hm : l.length + 65536 * ns.length ≤ 9000000) :
    Calls Try.prog 13 #[v, nv] W (RPlayP W (playL l ns)) := by
  obtain ⟨i0, hi0, hz0, hz1, hz2⟩ := info_parts infoRE
  have hne := RowK.below hl ((Below.refl W.heap.size W).alloc (Nat.le_refl _) (.cells #[] 40))
  obtain ⟨la, lc, rfl⟩ := hl.form
  obtain ⟨na, nc, rfl⟩ := hn.form
  obtain ⟨M, hM⟩ : ∃ M, ns.length = M := ⟨_, rfl⟩
  obtain ⟨N, hN⟩ : ∃ N, l.length = N := ⟨_, rfl⟩
  rw [hM] at hn hm ⊢
  rw [hN] at hne hm ⊢
  have HNR := Lib.hid hn
  have HM := Lib.hid hM
  have HN := Lib.hid hN
  have HBD := Lib.hid hb
  have hM9 : M ≤ 1000 := by omega
  have hN9 : N ≤ 9000000 := by omega
  have HMM := Lib.hid hm
  have ho : (W.alloc (.cells #[] 40)).ownsRow W.heap.size 40 2 (.slice (some ⟨W.heap.size, 0, none⟩) 0 0) 0 [] :=
    ⟨rfl, .inr ⟨_, 0, #[], rfl, Nat.le_refl _, heap_alloc_new _ _, by simp, by simp, by simp⟩⟩
  have HX := Lib.hid (cellsE_one l)
  have HNE := Lib.hid hne
  clear hl hn hM hN hb hm hne
  go_enter Try.func13, Try.ntmps13
  go_wp2_with (at_builtin; refine wpList_append_rowK _ rfl (.tmp 11) (.tmp 12) 22 rfl W.heap.size 40 i0 (.agg #[.int .u32 0, .int .u8 0]) 2 8 Try.underlying22 hi0 hz0 hz1 hz2 rfl (by decide) _ _ _ rfl ho (.slice la N lc) l N HN.out rfl HNE.out encE_len HX.out (by unfold maxLen; omega) (by omega) (by simp) ?_)
  intro v1 w1 ho1 hg1 hat1
  have HO1 : Hid (w1.ownsRow W.heap.size 40 2 v1 l.length (cellsK encE l)) := by
    show World.ownsRow _ _ _ _ _ _ _
    rw [HN.out]; simpa using ho1
  have HB1 := Lib.hid (((Below.refl W.heap.size W).alloc (Nat.le_refl _) (.cells #[] 40)).grown hg1 (by simp) (fun q hq => by cases hq; exact Nat.le_refl _))
  clear ho1 hg1 hat1 ho HNE HX
  go_wp2_with fail
  go_loopw [6, 7] (fun lv i wr => ∃ (k : Nat) (m : List EL), k ≤ M ∧ i = .int .i64 k ∧ Hid (playL l (ns.take k) = some m) ∧ Hid (wr.ownsRow W.heap.size 40 2 lv m.length (cellsK encE m)) ∧ Hid (Below W.heap.size W wr)) (fun _ i _ => M - (intOf i).toNat)
  case atStart => exact ⟨0, l, Nat.zero_le _, rfl, rfl, HO1.out, HB1.out⟩
  case round =>
    clear HO1 HB1
    obtain ⟨k, m, hk, rfl, HP, HO, HB⟩ := hrel
    obtain ⟨ad, cp, hv⟩ := own_form HO.out
    subst hv
    by_cases hlt : k < M
    · have hq : (k : Int) < M := by omega
      have hq0 : (0 : Int) ≤ k := by omega
      obtain ⟨r, hr⟩ : ∃ r, ns[k]? = some r := ⟨_, List.getElem?_eq_getElem (by have := HM.out; omega)⟩
      obtain ⟨b, off, rfl, hbb, c0, c1, c2, c3⟩ := NoteRow.at (HNR.out.below HB.out) hr
      have hlen : m.length ≤ l.length + 65536 * (ns.take k).length := playL_len _ _ _ HP.out
      have hbd := HBD.out r (List.mem_of_getElem? hr)
      have hstep := playL_snoc (ns.take k) r l
      rw [← take_at' hr, HP.out] at hstep
      dsimp only at hstep
      obtain ⟨⟨kd, sq, ⟨x, y⟩⟩, rfl⟩ : ∃ q : NL, q = r := ⟨_, rfl⟩
      dsimp only at c0 c1 c2 c3 hbd
      have hfail : Hid (stepL m ⟨kd, sq, ⟨x, y⟩⟩ = none → playL l ns = none) := by
        intro h
        rw [h] at hstep
        conv => lhs; rw [← List.take_append_drop (k + 1) ns]
        rw [playL_app, hstep]
      obtain ⟨L, hL⟩ : ∃ L, m.length = L := ⟨_, rfl⟩
      have hL9 : L ≤ 9000000 := by
        have h1 := HMM.out
        rw [List.length_take] at hlen
        have h2 : 65536 * min k ns.length ≤ 65536 * M := Nat.mul_le_mul_left _ (by omega)
        have h3 := HN.out
        omega
      rw [hL] at HO ⊢
      have hmay := stepL_may m ⟨kd, sq, ⟨x, y⟩⟩
      rw [hL] at hmay
      have HST := Lib.hid hstep
      have HL := Lib.hid hL
      have hN1 := Quad.new wr 42 (.int .i64 kd) (.int .i64 sq) (.int .u32 x) (.int .u8 y)
      have hO1 := HO.out.alloc (.cells #[.int .i64 kd, .int .i64 sq, .int .u32 x, .int .u8 y] 42)
      have hB1 := HB.out.alloc HB.out.size (.cells #[.int .i64 kd, .int .i64 sq, .int .u32 x, .int .u8 y] 42)
      have HN1 := Lib.hid hN1
      have HO1 := Lib.hid hO1
      have HB1 := Lib.hid hB1
      have HMY : Hid (mayN L ⟨kd, sq, ⟨x, y⟩⟩ = false → playL l ns = none) := fun h => hfail.out (by
        rw [h, Option.isSome_eq_false_iff] at hmay; simpa using hmay)
      have HMT : Hid (mayN L ⟨kd, sq, ⟨x, y⟩⟩ = true → ∃ m2, stepL m ⟨kd, sq, ⟨x, y⟩⟩ = some m2) := fun h => Option.isSome_iff_exists.1 (hmay.trans h)
      clear hr hlen hstep hN1 hO1 hB1 hmay hL hfail
      by_cases k1 : kd = 1
      · subst k1
        by_cases h1 : sq < (L : Int)
        · have d1 : decide (sq < (L : Int)) = true := decide_eq_true h1
          have HF : Hid (playL l ns = none) := HMY.out (by unfold mayN; simp; omega)
          go_wp2_with fail
          go_ret2
          refine ⟨HB1.out, ?_⟩
          rw [HF.out]; rfl
        · by_cases h2 : 65536 < sq - (L : Int)
          · have d1 : decide (sq < (L : Int)) = false := decide_eq_false h1
            have d2 : decide ((65536 : Int) < sq - (L : Int)) = true := decide_eq_true h2
            have b1 : 0 ≤ sq - (L : Int) := by omega
            have b2 : sq - (L : Int) ≤ 9223372036854775807 := by omega
            have HF : Hid (playL l ns = none) := HMY.out (by unfold mayN; simp; omega)
            go_wp2_with fail
            go_ret2
            refine ⟨HB1.out, ?_⟩
            rw [HF.out]; rfl
          · obtain ⟨S, rfl⟩ : ∃ S : Nat, sq = (S : Int) := ⟨sq.toNat, by omega⟩
            obtain ⟨m2, hm2⟩ := HMT.out (by unfold mayN; simp; omega)
            have hLS : L ≤ S := by omega
            have hS9 : S ≤ 9100000 := by omega
            rw [hm2] at HST
            have hM2 : m2 = m ++ List.replicate (S - L) noE := by
              unfold stepL at hm2
              simp only [HL.out] at hm2
              rw [if_pos (by decide), if_neg (by omega)] at hm2
              rw [← Option.some.inj hm2]
              simp
            have HM2 := Lib.hid hM2
            have d1 : decide ((S : Int) < (L : Int)) = false := decide_eq_false (by omega)
            have d1' : decide (S < L) = false := decide_eq_false (by omega)
            have d2 : decide ((65536 : Int) < (S : Int) - (L : Int)) = false := decide_eq_false (by omega)
            have b1 : (0 : Int) ≤ (S : Int) - (L : Int) := by omega
            clear hm2 hM2 h1 h2
            go_wp2_with fail
            obtain ⟨O, hO⟩ : ∃ O, wr.heap.size = O := ⟨_, rfl⟩
            have hgO : (Value.slice ad L cp).ownBlock ≠ some O := fun e => by have := (HO.out.lt O e).2; omega
            have HGO := Lib.hid hgO
            have hWO : W.heap.size ≤ O := by have := HB.out.size; omega
            rw [hO] at HN1 ⊢
            have HOO := Lib.hid hO
            clear hO hgO c0 c1 c2 c3 d1 d1' d2 b1
            go_loopw [6] (fun ov wr2 => ∃ K : Nat, L ≤ K ∧ K ≤ S ∧ (∃ a c, ov = .slice a K c) ∧ Hid (wr2.ownsRow W.heap.size 40 2 ov K (cellsK encE (m ++ List.replicate (K - L) noE))) ∧ Hid (Below W.heap.size W wr2) ∧ Hid (Quad wr2 O 42 (.int .i64 1) (.int .i64 (S : Int)) (.int .u32 x) (.int .u8 y)) ∧ Hid (ov.ownBlock ≠ some O)) (fun ov _ => S - lenV ov)
            case atStart => exact ⟨L, Nat.le_refl _, hLS, ⟨_, _, rfl⟩, by show World.ownsRow _ _ _ _ _ _ _; rw [Nat.sub_self, List.replicate_zero, List.append_nil]; exact HO1.out, HB1.out, HN1.out, HGO.out⟩
            case round =>
              clear HO1 HB1 HN1 HGO
              obtain ⟨K, hLK, hKS, ⟨a2, c2, rfl⟩, HO2, HB2, HN2, HG2⟩ := hrel
              obtain ⟨d0, d1, d2, d3⟩ := HN2.out.cell
              by_cases hKS2 : K < S
              · have hq4 : (K : Int) < S := by omega
                have hq4' : decide (K < S) = true := decide_eq_true hKS2
                have hW2 : W.heap.size ≤ wr.heap.size := HB2.out.size
                have hO2 := HN2.out.lt
                clear d2 d3
                go_wp2_with (at_builtin; refine wpList_append_own_at _ rfl (.tmp 45) (.tmp 47) 22 rfl W.heap.size 40 i0 (.agg #[.int .u32 0, .int .u8 0]) 2 8 Try.underlying22 hi0 hz0 hz1 hz2 rfl (by decide) _ K (cellsK encE (m ++ List.replicate (K - L) noE)) rfl (HO2.out.alloc _) ⟨wr.heap.size, 0, none⟩ 1 1 [.int .u32 0, .int .u8 0] rfl rfl (World.news_of_block (cs := #[.int .u32 0, .int .u8 0]) (t := 40) (fr := (0, 0)) (heap_alloc_new wr _)) (by simp [Value.oneCell']) (by unfold maxLen; omega) (by omega) (by simp; omega) ?_)
                intro v6 w6 ho6 hg6 _ hat6
                obtain ⟨a6, c6, rfl⟩ := own_form ho6
                have HO6 : Hid (w6.ownsRow W.heap.size 40 2 (.slice a6 (K + 1) c6) (K + 1) (cellsK encE (m ++ List.replicate (K + 1 - L) noE))) := by
                  show World.ownsRow _ _ _ _ _ _ _
                  rw [show K + 1 - L = (K - L) + 1 by omega, List.replicate_succ', ← List.append_assoc, cellsE_app, cellsK_one]; exact ho6
                have hb6 := (HB2.out.alloc hW2 (.cells #[.int .u32 0, .int .u8 0] 40)).grown hg6 (by simp; omega) (fun q hq => (HO2.out.lt q hq).1)
                have HB6 := Lib.hid hb6
                have HN6 : Hid (Quad w6 O 42 (.int .i64 1) (.int .i64 (S : Int)) (.int .u32 x) (.int .u8 y)) := by
                  refine HN2.out.later ?_
                  rw [hg6.block O (by simp; omega) (fun e => HG2.out e.symm)]
                  exact Below.heap_alloc wr _ O hO2
                have HG6 : Hid ((Value.slice a6 (K + 1) c6).ownBlock ≠ some O) := fun e => by
                  rcases hat6 with h | h
                  · exact HG2.out (h.symm.trans e)
                  · rw [h] at e; simp at e; omega
                clear ho6 hg6 hat6 hb6 d0 d1
                go_wp2_with fail
                go_roundw
                case rel => exact ⟨K + 1, by omega, by omega, ⟨_, _, rfl⟩, HO6.out, HB6.out, HN6.out, HG6.out⟩
                case measure => simp [lenV]; omega
              · obtain rfl : K = S := by omega
                have hq4 : ¬ (K : Int) < K := by omega
                have HO6 : Hid (wr.ownsRow W.heap.size 40 2 (.slice a2 K c2) m2.length (cellsK encE m2)) := by
                  show World.ownsRow _ _ _ _ _ _ _
                  rw [HM2.out, List.length_append, List.length_replicate, HL.out, show L + (K - L) = K by omega]; exact HO2.out
                clear d2 d3
                go_wp2_with fail
                go_roundw
                case rel => exact ⟨k + 1, m2, by omega, by go_num, HST.out, HO6.out, HB2.out⟩
                case measure => simp [intOf]; omega
      · by_cases k0 : kd = 0
        · subst k0
          by_cases h1 : sq < 1
          · have dd1 : decide (sq < (1 : Int)) = true := decide_eq_true h1
            have HF : Hid (playL l ns = none) := HMY.out (by unfold mayN; simp; omega)
            go_wp2_with fail
            go_ret2
            refine ⟨HB1.out, ?_⟩
            rw [HF.out]; rfl
          · by_cases h2 : (L : Int) < sq
            · have dd1 : decide (sq < (1 : Int)) = false := decide_eq_false h1
              have dd2 : decide ((L : Int) < sq) = true := decide_eq_true h2
              have HF : Hid (playL l ns = none) := HMY.out (by unfold mayN; simp; omega)
              go_wp2_with fail
              go_ret2
              refine ⟨HB1.out, ?_⟩
              rw [HF.out]; rfl
            · obtain ⟨i, rfl⟩ : ∃ i : Nat, sq = (i : Int) + 1 := ⟨(sq - 1).toNat, by omega⟩
              have hiL : i < L := by omega
              obtain ⟨m2, hm2⟩ := HMT.out (by unfold mayN; simp; omega)
              rw [hm2] at HST
              have hM2 : m2 = m.eraseIdx i := by
                unfold stepL at hm2
                simp only [HL.out] at hm2
                rw [if_neg (by decide), if_neg (by omega), if_neg (by decide)] at hm2
                rw [← Option.some.inj hm2]
                congr 1
              have HM2 := Lib.hid hM2
              obtain ⟨g, cap, hvg, hbg, hgl⟩ := HO1.out.form (by omega)
              cases hvg
              have dd1 : decide ((i : Int) + 1 < 1) = false := decide_eq_false (by omega)
              have dd2 : decide ((L : Int) < (i : Int) + 1) = false := decide_eq_false (by omega)
              clear hM2 hm2 h1 h2
              go_wp2_with fail
              obtain ⟨O, hO⟩ : ∃ O, wr.heap.size = O := ⟨_, rfl⟩
              have hWO : W.heap.size ≤ O := by have := HB.out.size; omega
              have hgO : g < O := by have := (HO.out.lt g rfl).2; omega
              obtain ⟨W1, hW1⟩ : ∃ W1, wr.alloc (.cells #[.int .i64 0, .int .i64 ((i : Int) + 1), .int .u32 x, .int .u8 y] 42) = W1 := ⟨_, rfl⟩
              rw [hW1] at HN1 HO1 HB1 ⊢
              have hW1s : W1.heap.size = O + 1 := by rw [← hW1, World.size_alloc, hO]
              rw [hO] at HN1 ⊢
              have HW1s := Lib.hid hW1s
              clear hO hW1 c0 c1 c2 c3 dd1 dd2 hW1s
              go_loopw [9, 10] (fun lv kv wr2 => ∃ k2 n2 : Nat, k2 ≤ L ∧ kv = .int .i64 k2 ∧ n2 ≤ L ∧ Hid (((m.take k2).eraseIdx i).length = n2) ∧ Hid (wr2.ownsRow (O + 1) 40 2 lv n2 (cellsK encE ((m.take k2).eraseIdx i))) ∧ Hid (Below (O + 1) W1 wr2)) (fun _ kv _ => L - (intOf kv).toNat)
              case atStart => exact ⟨0, 0, Nat.zero_le _, rfl, Nat.zero_le _, by show _ = _; simp, World.ownsRow_nil _ _ _ _, Below.refl _ _⟩
              case round =>
                obtain ⟨k2, n2, hk2, rfl, hn2, HN2, HO2, HB2⟩ := hrel
                obtain ⟨d0, d1, d2, d3⟩ := (HN1.out.below HB2.out (by omega)).cell
                obtain ⟨a2, cc2, hv2⟩ := own_form HO2.out
                subst hv2
                have hsz2 : O + 1 ≤ wr.heap.size := by have := HB2.out.size; have := HW1s.out; omega
                by_cases hkL : k2 < L
                · have hq4 : (k2 : Int) < L := by omega
                  have hq5 : (0 : Int) ≤ k2 := by omega
                  obtain ⟨r, hr⟩ : ∃ r, m[k2]? = some r := ⟨_, List.getElem?_eq_getElem (by rw [HL.out]; exact hkL)⟩
                  have hET := erase_take (i := i) hr
                  obtain ⟨e0, e1⟩ := cellsE_at hr
                  have k0 : wr.cell? ⟨g, k2 * 2, none⟩ = some (.int .u32 r.uid) := by rw [HB2.out.cell (p := ⟨g, _, none⟩) (by show g < O + 1; omega), HO1.out.cellAt _ (by omega)]; exact e0
                  have k1 : wr.cell? ⟨g, k2 * 2 + 1, none⟩ = some (.int .u8 r.fl) := by rw [HB2.out.cell (p := ⟨g, _, none⟩) (by show g < O + 1; omega), HO1.out.cellAt _ (by omega)]; exact e1
                  by_cases hki : k2 = i
                  · have hq6 : ((k2 : Int) == (i : Int)) = true := by rw [beq_iff_eq]; omega
                    have hq7 : ((k2 : Int) != (i : Int)) = false := by rw [bne_eq_false_iff_eq]; omega
                    rw [if_pos hki] at hET
                    have HN3 : Hid (((m.take (k2 + 1)).eraseIdx i).length = n2) := by show _ = _; rw [hET]; exact HN2.out
                    have HO3 : Hid (wr.ownsRow (O + 1) 40 2 (.slice a2 n2 cc2) n2 (cellsK encE ((m.take (k2 + 1)).eraseIdx i))) := by show World.ownsRow _ _ _ _ _ _ _; rw [hET]; exact HO2.out
                    clear hET hr e0 e1 hki d2 d3 k0 k1
                    go_wp2_with fail
                    go_roundw
                    case rel => exact ⟨k2 + 1, n2, by omega, by go_num, hn2, HN3.out, HO3.out, HB2.out⟩
                    case measure => simp [intOf]; omega
                  · have hq6 : ((k2 : Int) == (i : Int)) = false := by rw [beq_eq_false_iff_ne]; omega
                    have hq7 : ((k2 : Int) != (i : Int)) = true := by rw [bne_iff_ne]; omega
                    rw [if_neg hki] at hET
                    have hn2' : n2 + 1 ≤ L := by
                      have h := HN2.out
                      have h2 : ((m.take (k2 + 1)).eraseIdx i).length ≤ (m.take (k2 + 1)).length := List.length_eraseIdx_le _ _
                      rw [hET, List.length_append, h, List.length_singleton, List.length_take] at h2
                      omega
                    have HN3 : Hid (((m.take (k2 + 1)).eraseIdx i).length = n2 + 1) := by show _ = _; rw [hET, List.length_append, HN2.out]; rfl
                    have HET := Lib.hid hET
                    clear hET hr e0 e1 hki d2 d3
                    go_wp2_with (at_builtin; refine wpList_append_own_at _ rfl (.tmp 90) (.tmp 95) 22 rfl (O + 1) 40 i0 (.agg #[.int .u32 0, .int .u8 0]) 2 8 Try.underlying22 hi0 hz0 hz1 hz2 rfl (by decide) _ n2 (cellsK encE ((m.take k2).eraseIdx i)) rfl (HO2.out.alloc _) ⟨wr.heap.size, 0, none⟩ 1 1 [.int .u32 r.uid, .int .u8 r.fl] rfl rfl (World.news_of_block (cs := #[.int .u32 r.uid, .int .u8 r.fl]) (t := 40) (fr := (0, 0)) (heap_alloc_new wr _)) (by simp [Value.oneCell']) (by unfold maxLen; omega) (by omega) (by simp; omega) ?_)
                    intro v6 w6 ho6 hg6 _ hat6
                    have HO6 : Hid (w6.ownsRow (O + 1) 40 2 v6 (n2 + 1) (cellsK encE ((m.take (k2 + 1)).eraseIdx i))) := by
                      show World.ownsRow _ _ _ _ _ _ _
                      rw [HET.out, cellsE_app, cellsK_one]; exact ho6
                    have HB6 := Lib.hid ((HB2.out.alloc hsz2 (.cells #[.int .u32 r.uid, .int .u8 r.fl] 40)).grown hg6 (by simp; omega) (fun q hq => (HO2.out.lt q hq).1))
                    clear ho6 hg6 hat6 k0 k1 d0 d1
                    go_wp2_with fail
                    go_roundw
                    case rel => exact ⟨k2 + 1, n2 + 1, by omega, by go_num, hn2', HN3.out, HO6.out, HB6.out⟩
                    case measure => simp [intOf]; omega
                · obtain rfl : k2 = L := by omega
                  have hq4 : ¬ (k2 : Int) < k2 := by omega
                  have HO6 : Hid (wr.ownsRow W.heap.size 40 2 (.slice a2 n2 cc2) m2.length (cellsK encE m2)) := by
                    show World.ownsRow _ _ _ _ _ _ _
                    have h := HO2.out
                    have h3 := HN2.out
                    rw [List.take_of_length_le (by rw [HL.out]; exact Nat.le_refl _)] at h h3
                    rw [HM2.out, h3]
                    exact own_base h (by omega)
                  have HB6 := Lib.hid (HB1.out.trans (HB2.out.mono (by omega)))
                  clear d2 d3
                  go_wp2_with fail
                  go_roundw
                  case rel => exact ⟨k + 1, m2, by omega, by go_num, HST.out, HO6.out, HB6.out⟩
                  case measure => simp [intOf]; omega
        · by_cases k2 : kd = 2
          · subst k2
            by_cases h1 : sq < 1
            · have dd1 : decide (sq < (1 : Int)) = true := decide_eq_true h1
              have HF : Hid (playL l ns = none) := HMY.out (by unfold mayN; simp; omega)
              go_wp2_with fail
              go_ret2
              refine ⟨HB1.out, ?_⟩
              rw [HF.out]; rfl
            · by_cases h2 : (L : Int) < sq
              · have dd1 : decide (sq < (1 : Int)) = false := decide_eq_false h1
                have dd2 : decide ((L : Int) < sq) = true := decide_eq_true h2
                have HF : Hid (playL l ns = none) := HMY.out (by unfold mayN; simp; omega)
                go_wp2_with fail
                go_ret2
                refine ⟨HB1.out, ?_⟩
                rw [HF.out]; rfl
              · obtain ⟨i, rfl⟩ : ∃ i : Nat, sq = (i : Int) + 1 := ⟨(sq - 1).toNat, by omega⟩
                have hiL : i < L := by omega
                obtain ⟨m2, hm2⟩ := HMT.out (by unfold mayN; simp; omega)
                rw [hm2] at HST
                have hM2 : m2 = m.set i ⟨x, y⟩ := by
                  unfold stepL at hm2
                  simp only [HL.out] at hm2
                  rw [if_neg (by decide), if_neg (by omega), if_pos (by decide)] at hm2
                  rw [← Option.some.inj hm2]
                  congr 1
                obtain ⟨g, cap, hvg, hbg, hgl⟩ := HO1.out.form (by omega)
                cases hvg
                obtain ⟨q, hqq⟩ : ∃ q, m[i]? = some q := ⟨_, List.getElem?_eq_getElem (by rw [HL.out]; exact hiL)⟩
                have ho5 := HO1.out
                obtain ⟨e0, e1⟩ := cellsE_at hqq
                have hgw : g < wr.heap.size := (HO.out.lt g rfl).2
                have k0 : wr.cell? ⟨g, i * 2, none⟩ = some (.int .u32 q.uid) := by rw [HO.out.cellAt _ (by omega)]; exact e0
                have k1 : wr.cell? ⟨g, i * 2 + 1, none⟩ = some (.int .u8 q.fl) := by rw [HO.out.cellAt _ (by omega)]; exact e1
                have f0 : wr.frozen? ⟨g, i * 2, none⟩ = false := HO.out.frozenAt _
                have f1 : wr.frozen? ⟨g, i * 2 + 1, none⟩ = false := HO.out.frozenAt _
                have hst := ownK_stored (encE ⟨x, y⟩) wr (cellsK encE m) (i * 2) HO.out
                rw [setK_set hqq] at hst
                have HO6 : Hid ((((wr.setCell ⟨g, i * 2, none⟩ (.int .u32 x)).setCell ⟨g, i * 2 + 1, none⟩ (.int .u8 y)).alloc (.cells #[.int .i64 2, .int .i64 ((i : Int) + 1), .int .u32 x, .int .u8 y] 42)).ownsRow W.heap.size 40 2 (.slice (some ⟨g, 0, none⟩) L cp) m2.length (cellsK encE m2)) := by
                  show World.ownsRow _ _ _ _ _ _ _
                  rw [hM2, List.length_set, HL.out]; exact hst.1.alloc _
                have HB6 : Hid (Below W.heap.size W (((wr.setCell ⟨g, i * 2, none⟩ (.int .u32 x)).setCell ⟨g, i * 2 + 1, none⟩ (.int .u8 y)).alloc (.cells #[.int .i64 2, .int .i64 ((i : Int) + 1), .int .u32 x, .int .u8 y] 42))) :=
                  (HB.out.grown hst.2 HB.out.size (fun q hq => by cases hq; exact hbg)).alloc (Nat.le_trans HB.out.size hst.2.size) _
                have hi0 : (0 : Int) ≤ i := by omega
                have hi1 : (i : Int) < L := by omega
                have dd1 : decide ((i : Int) + 1 < 1) = false := decide_eq_false (by omega)
                have dd2 : decide ((L : Int) < (i : Int) + 1) = false := decide_eq_false (by omega)
                clear hM2 hst ho5 e0 e1 hqq hm2 h1 h2
                go_wp2_with fail
                go_roundw
                case rel => exact ⟨k + 1, m2, by omega, by go_num, HST.out, HO6.out, HB6.out⟩
                case measure => simp [intOf]; omega
          · have HF : Hid (playL l ns = none) := HMY.out (by unfold mayN; simp [k0, k1, k2])
            have e0 : (kd == 0) = false := by rw [beq_eq_false_iff_ne]; exact k0
            have e1 : (kd == 1) = false := by rw [beq_eq_false_iff_ne]; exact k1
            have e2 : (kd == 2) = false := by rw [beq_eq_false_iff_ne]; exact k2
            have e3 : (kd != 0) = true := by rw [bne_iff_ne]; exact k0
            have e4 : (kd != 2) = true := by rw [bne_iff_ne]; exact k2
            clear k0 k1 k2
            go_wp2_with fail
            go_ret2
            refine ⟨HB1.out, ?_⟩
            rw [HF.out]; rfl
    · obtain rfl : k = M := by omega
      have hq : ¬ (k : Int) < k := by omega
      have hfin := HP.out
      rw [List.take_of_length_le (by rw [HM.out]; exact Nat.le_refl _)] at hfin
      have HF := Lib.hid hfin
      clear hfin
      go_wp2_with fail
      go_ret2
      refine ⟨HB.out, ?_⟩
      rw [HF.out]
      exact ⟨_, rfl, HO.out⟩
end Go.Proofs.Ytebkpejiloabnaa

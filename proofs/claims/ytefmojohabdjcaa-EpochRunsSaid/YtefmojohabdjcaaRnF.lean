/-
  The law's world: the end of what takes something away.
-/
import Derived.Test.YtefmojohabdjcaaRnE
set_option linter.unusedVariables false
set_option linter.unusedSimpArgs false
namespace Go.Proofs.Ytefmojohabdjcaa
open Go Go.RowKit

theorem infoAw : (Try.prog.info? 82).map (fun i => (i.zero, i.size, i.bytes)) = some (some (.agg #[.int .u64 0, .slice none 0 0]), 2, 32) := by kernel_rfl
variable {W0 : World} {B : RB} {C : RC} {s : RS} {w w2 w3 wa : World} {n : Nat}
theorem own_base' {w : World} {B D e size n : Nat} {v : Value} {xs : List Value} (h : w.ownsRow B e size v n xs) (hD : D ≤ B) : w.ownsRow D e size v n xs := by
  refine ⟨h.1, ?_⟩
  rcases h.2 with hn | ⟨g, cap, cur, rfl, hg, hgg, rest⟩
  · exact .inl hn
  · exact .inr ⟨g, cap, cur, rfl, Nat.le_trans hD hg, hgg, rest⟩
structure F2OK (C : RC) (s : RS) (who k : Nat) (F2 : Nat → Nat → Value) : Prop where
  g0 : F2 who 0 = .int .i64 ((s.nx who + 1 : Nat) : Int)
  g1 : F2 who 1 = .pointer none
  g2 : F2 who 2 = C.mv who
  g3 : F2 who 3 = .int .u8 k
  g4 : F2 who 4 = .bool (s.pn who)
  g5 : F2 who 5 = .int .u64 (s.si who)
  g6 : F2 who 6 = .int .i64 (s.tn who)
  go : ∀ i, i ≠ who → ∀ j, F2 i j = dgF C s i j
theorem F2OK.at {who k : Nat} {F2 : Nat → Nat → Value} (h : F2OK C s who k F2) (i : Nat) : F2 i 4 = .bool (s.pn i) ∧ F2 i 6 = .int .i64 (s.tn i) := by
  by_cases hi : i = who
  · subst hi; exact ⟨h.g4, h.g6⟩
  · obtain ⟨_, _, _, _, f4, _, f6⟩ := dgF_cells C s i
    exact ⟨(h.go i hi 4).trans f4, (h.go i hi 6).trans f6⟩
theorem turns_len (s : RS) (R : Nat) : (turnsOf s R).length = R := by simp [turnsOf]
theorem turns_take (s : RS) (R j : Nat) (hj : j < R) : intsV ((turnsOf s R).take (j + 1)) = intsV ((turnsOf s R).take j) ++ [.int .i64 (if s.pn j then (s.tn j : Int) else -1)] := by
  have hlt : j < (turnsOf s R).length := by rw [turns_len]; exact hj
  rw [List.take_succ_eq_append_getElem hlt]
  unfold intsV
  rw [List.map_append]
  simp [turnsOf]
/-- What stands behind the append. -/
theorem grown_quad {a b c d gv : Value} {n : Nat} {xs : List Value} {D : Nat} (hq : Quad wa B.Wb 34 a b c d) (ho : wa.ownsRow D 82 2 gv n xs) (hg : wa.grownBy w3 gv.ownBlock) : Quad w3 B.Wb 34 a b c d :=
  hq.later (hg.block _ hq.lt fun e => by
    obtain ⟨c', hc'⟩ := own_cells ho e.symm
    exact block_ne hq hc' (by decide) rfl)
theorem take_end {who D : Nat} {F2 : Nat → Nat → Value} {tv v3 : Value} (hA : RAll W0 B C s C.gv (.int .u64 s.es.now) F2 wa) (hw : who < B.p.R) (hd : (s.pc who).isDone = true) (hF : F2OK C s who 3 F2) (ht : wa.ownsRow D 3 1 tv B.p.R (intsV (turnsOf s B.p.R))) (hD : W0.heap.size ≤ D)
    (hown : w3.ownsRow W0.heap.size 82 2 v3 (s.gs.length + 1) (awayC s.gs C.tv ++ [.int .u64 s.es.now, tv])) (hg : wa.grownBy w3 C.gv.ownBlock) :
    RInv W0 B { C with gv := v3, tv := C.tv ++ [tv] } (s.take who B.p.R) (w3.setCell ⟨B.Wb, 2, none⟩ v3) := by
  have hgo := hA.core.gone
  have hq3 := grown_quad hA.q hgo hg
  have key : ∀ (k : Nat) (c : Array Value) (t : TypeId) (fz : Nat × Nat), wa.heap[k]? = some (Obj.cells c t fz) → t ≠ 82 → w3.heap[k]? = wa.heap[k]? := fun k c t fz hk ht => hg.block k (Array.getElem?_eq_some_iff.1 hk).1 fun e => by
    obtain ⟨c', hc'⟩ := own_cells hgo e.symm
    exact block_ne hk hc' ht rfl
  have hb3 : Below W0.heap.size W0 w3 := hA.core.bel.grown hg hA.core.bel.size fun q hq => (hgo.lt q hq).1
  have h4 : ∀ k, k ≠ B.Wb → (w3.setCell ⟨B.Wb, 2, none⟩ v3).heap[k]? = w3.heap[k]? := fun k hk => Below.heap_setCell w3 ⟨B.Wb, 2, none⟩ v3 k hk
  have htv3 : w3.ownsRow W0.heap.size 3 1 tv B.p.R (intsV (turnsOf s B.p.R)) := own_same (own_base' ht hD) fun k hk => by
    obtain ⟨c', hc'⟩ := own_cells ht hk
    exact key k _ _ _ hc' (by decide)
  have hcore : RCore W0 B { C with gv := v3, tv := C.tv ++ [tv] } (s.take who B.p.R) (w3.setCell ⟨B.Wb, 2, none⟩ v3) := by
    refine hA.core.take hd (fun k c t fz hk ht2 hne => ?_) (hb3.setCell (p := ⟨B.Wb, 2, none⟩) hA.core.ge.2.1 v3) ?_ ?_
    · have h5 := key k c t fz hk hne
      refine (h4 k fun e => ?_).trans h5
      rw [e] at hk
      exact block_ne hk hA.q (coreT_ne ht2).2 rfl
    · exact own_same hown fun k hk => h4 k fun e => by
        obtain ⟨c', hc'⟩ := own_cells hown hk
        exact block_ne hq3 hc' (by decide) e.symm
    · exact own_same htv3 fun k hk => h4 k fun e => by
        obtain ⟨c', hc'⟩ := own_cells htv3 hk
        exact block_ne hq3 hc' (by decide) e.symm
  have hall3 : Rows7 w3 B.Ab B.p.R F2 := by
    have ha := hA.all
    obtain ⟨cur, hc, _⟩ := ha
    exact hA.all.later (key _ _ _ _ hc (by decide))
  have hAl : RAll W0 B { C with gv := v3, tv := C.tv ++ [tv] } (s.take who B.p.R) v3 (.int .u64 s.es.now) F2 (w3.setCell ⟨B.Wb, 2, none⟩ v3) := by
    refine ⟨hcore, ?_, hall3.setW hq3 _ _⟩
    obtain ⟨hlt, hk⟩ := Array.getElem?_eq_some_iff.1 hq3
    show (w3.heap.modify B.Wb _)[B.Wb]? = _
    rw [Array.getElem?_eq_getElem (by rw [Array.size_modify]; exact hlt), Array.getElem_modify_self, hk]
    rfl
  refine hcore.inv hAl.q (hAl.all.congr (dgF_take who hd F2 hF.g0 hF.g1 hF.g2 (hF.g3.trans rfl) hF.g4 hF.g5 hF.g6 hF.go _ rfl rfl B.p.R))
theorem RAll.drew {gv mvs : Value} {f : Nat → Nat → Value} (h : RAll W0 B C s gv mvs f w) : RAll W0 B C s gv mvs f w.drew := ⟨h.core.laterT (fun _ _ _ _ _ _ => rfl) h.core.bel.drew, h.q.later rfl, h.all.later rfl⟩
theorem RAll.alloc {gv mvs : Value} {f : Nat → Nat → Value} (h : RAll W0 B C s gv mvs f w) (o : Obj) : RAll W0 B C s gv mvs f (w.alloc o) := h.below ((Below.refl _ _).alloc (Nat.le_refl _) o)
end Go.Proofs.Ytefmojohabdjcaa

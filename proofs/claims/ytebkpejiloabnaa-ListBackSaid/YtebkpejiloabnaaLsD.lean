/-
  By which notes a list becomes another one; played, they come to that one.
-/
import Derived.Test.YtebkpejiloabnaaLs9
set_option linter.unusedVariables false
set_option linter.unusedSimpArgs false
namespace Go.Proofs.Ytebkpejiloabnaa
open Go Go.RowKit

def isIn (l : List EL) (u : Nat) : Bool := l.any fun e => decide (e.uid = u)
def keepB (l : List EL) (e : EL) : Bool := match l.find? (fun q => decide (q.uid = e.uid)) with | none => false | some q => decide (q.fl = e.fl)
def goneN (l now : List EL) : Nat → List NL
  | 0 => []
  | n + 1 => goneN l now n ++ (match l[l.length - 1 - n]? with | none => [] | some e => if isIn now e.uid then [] else [⟨0, ((l.length - n : Nat) : Int), noE⟩])
def freshN (l now : List EL) (n : Nat) : Bool := (now.take n).any fun e => !isIn l e.uid
def fetchN (l now : List EL) : Nat → List NL
  | 0 => []
  | n + 1 => fetchN l now n ++ (match now[n]? with | none => [] | some e => if keepB l e then [] else [⟨2, ((n + 1 : Nat) : Int), e⟩])
def existsN (l now : List EL) : List NL := if freshN l now now.length then [⟨1, (now.length : Nat), noE⟩] else []
def diffL (l now : List EL) : List NL := goneN l now l.length ++ existsN l now ++ fetchN l now now.length

theorem goneN_at {l now : List EL} {j : Nat} {e : EL} (h : l[j]? = some e) : goneN l now (l.length - j) = goneN l now (l.length - (j + 1)) ++ if isIn now e.uid then [] else [⟨0, ((j + 1 : Nat) : Int), noE⟩] := by
  have hj := (List.getElem?_eq_some_iff.1 h).1
  rw [show l.length - j = (l.length - (j + 1)) + 1 by omega, goneN]
  rw [show l.length - 1 - (l.length - (j + 1)) = j by omega, h, show l.length - (l.length - (j + 1)) = j + 1 by omega]
theorem fetchN_at {l now : List EL} {n : Nat} {e : EL} (h : now[n]? = some e) : fetchN l now (n + 1) = fetchN l now n ++ if keepB l e then [] else [⟨2, ((n + 1 : Nat) : Int), e⟩] := by
  rw [fetchN, h]
theorem freshN_at {l now : List EL} {n : Nat} {e : EL} (h : now[n]? = some e) : freshN l now (n + 1) = (freshN l now n || !isIn l e.uid) := by
  unfold freshN; rw [take_at' h, List.any_append]; simp
theorem goneN_len (l now : List EL) : ∀ n, (goneN l now n).length ≤ n := by
  intro n
  induction n with
  | zero => simp [goneN]
  | succ n ih =>
    rw [goneN, List.length_append]
    split
    · simp; omega
    · split <;> simp <;> omega
theorem fetchN_len (l now : List EL) : ∀ n, (fetchN l now n).length ≤ n := by
  intro n
  induction n with
  | zero => simp [fetchN]
  | succ n ih =>
    rw [fetchN, List.length_append]
    split
    · simp; omega
    · split <;> simp <;> omega
theorem existsN_len (l now : List EL) : (existsN l now).length ≤ 1 := by unfold existsN; split <;> simp
theorem diffL_len (l now : List EL) : (diffL l now).length ≤ l.length + 1 + now.length := by
  unfold diffL
  rw [List.length_append, List.length_append]
  have := goneN_len l now l.length
  have := fetchN_len l now now.length
  have := existsN_len l now
  omega
theorem isIn_iff {l : List EL} {u : Nat} : isIn l u = true ↔ ∃ e ∈ l, e.uid = u := by
  unfold isIn; rw [List.any_eq_true]; simp
theorem findI_neg {l : List EL} {u : Nat} : findI l u < 0 ↔ isIn l u = false := by
  constructor
  · intro h
    rw [← Bool.not_eq_true, isIn_iff]
    rintro ⟨e, he, hu⟩
    unfold findI at h
    cases hf : l.findIdx? (fun e => decide (e.uid = u)) with
    | none => have := List.findIdx?_eq_none_iff.1 hf e he; simp [hu] at this
    | some i => rw [hf] at h; simp at h; omega
  · intro h
    rw [findI_none fun e he hu => by
      have : isIn l u = true := isIn_iff.2 ⟨e, he, hu⟩
      rw [h] at this; cases this]
    omega
theorem findI_some {l : List EL} {u : Nat} (h : ¬ findI l u < 0) : ∃ k q, findI l u = (k : Nat) ∧ l[k]? = some q ∧ q.uid = u ∧ l.find? (fun q => decide (q.uid = u)) = some q := by
  unfold findI at h ⊢
  cases hf : l.findIdx? (fun e => decide (e.uid = u)) with
  | none => rw [hf] at h; simp at h
  | some i =>
    obtain ⟨hi, h1, h2⟩ := List.findIdx?_eq_some_iff_getElem.1 hf
    refine ⟨i, l[i], rfl, List.getElem?_eq_getElem hi, by simpa using h1, ?_⟩
    rw [List.find?_eq_some_iff_getElem]
    exact ⟨h1, i, hi, rfl, fun j hj => by simpa using h2 j hj⟩
theorem keepB_some {l : List EL} {e q : EL} (h : l.find? (fun q => decide (q.uid = e.uid)) = some q) : keepB l e = decide (q.fl = e.fl) := by unfold keepB; rw [h]
theorem keepB_none {l : List EL} {e : EL} (h : isIn l e.uid = false) : keepB l e = false := by
  unfold keepB
  rw [List.find?_eq_none.2 (fun x hx => by
    intro hu
    have : isIn l e.uid = true := isIn_iff.2 ⟨x, hx, by simpa using hu⟩
    rw [h] at this; cases this)]
theorem getE_isIn {l : List EL} {u : Nat} : (getE l u).2 = isIn l u := by
  unfold getE isIn
  cases hf : l.find? (fun e => decide (e.uid = u)) with
  | none =>
    symm; rw [List.any_eq_false]; intro x hx; exact List.find?_eq_none.1 hf x hx
  | some q =>
    symm; rw [List.any_eq_true]
    exact ⟨q, List.mem_of_find?_eq_some hf, List.find?_some (p := fun e : EL => decide (e.uid = u)) hf⟩
/-- The program's test: not there, or another entry. -/
theorem keepB_get (l : List EL) (e : EL) : keepB l e = ((getE l e.uid).2 && (decide ((getE l e.uid).1.uid = e.uid) && decide ((getE l e.uid).1.fl = e.fl))) := by
  unfold keepB getE
  cases hf : l.find? (fun q => decide (q.uid = e.uid)) with
  | none => rfl
  | some q =>
    have := List.find?_some hf
    simp at this
    simp [this]

section
variable {l now : List EL}
theorem lastE_ge (h : UpE l) : ∀ e ∈ l, e.uid ≤ lastE l := by
  intro e he
  obtain ⟨j, hj, rfl⟩ := List.mem_iff_getElem.1 he
  have hp : 0 < l.length := by omega
  have hl : l[l.length - 1]? = some l[l.length - 1] := List.getElem?_eq_getElem (by omega)
  have : lastE l = l[l.length - 1].uid := by unfold lastE; rw [List.getLast?_eq_getElem?, hl]
  rw [this]
  exact up_le h (List.getElem?_eq_getElem hj) hl (by omega)
theorem lastE_mem (h : l ≠ []) : ∃ e ∈ l, e.uid = lastE l := by
  have hp : 0 < l.length := List.length_pos_iff.2 h
  have hl : l[l.length - 1]? = some l[l.length - 1] := List.getElem?_eq_getElem (by omega)
  refine ⟨l[l.length - 1], List.getElem_mem _, ?_⟩
  unfold lastE; rw [List.getLast?_eq_getElem?, hl]
theorem may_new (h : MayE l now) {e : EL} (he : e ∈ now) (hn : isIn l e.uid = false) : ∀ q ∈ l, q.uid < e.uid := by
  intro q hq
  have hne : l ≠ [] := fun h => by rw [h] at hq; simp at hq
  have h1 := h.2.2 e he (findI_neg.2 hn) hne
  have h2 := lastE_ge h.1 q hq
  have h3 : q.uid ≠ e.uid := fun hu => by
    have : isIn l e.uid = true := isIn_iff.2 ⟨q, hq, hu⟩
    rw [hn] at this; cases this
  omega
theorem fresh_last (h : MayE l now) : freshN l now now.length = decide (lastE l < lastE now) := by
  unfold freshN
  rw [List.take_length]
  by_cases hlt : lastE l < lastE now
  · rw [decide_eq_true hlt, List.any_eq_true]
    have hne : now ≠ [] := fun e => by rw [e] at hlt; simp [lastE] at hlt
    obtain ⟨e, he, hu⟩ := lastE_mem hne
    refine ⟨e, he, ?_⟩
    cases hi : isIn l e.uid with
    | false => rfl
    | true =>
      obtain ⟨q, hq, hqu⟩ := isIn_iff.1 hi
      have := lastE_ge h.1 q hq
      omega
  · rw [decide_eq_false hlt, List.any_eq_false]
    intro e he hc
    have hn : isIn l e.uid = false := by simpa using hc
    have h1 := lastE_ge h.2.1 e he
    by_cases hl : l = []
    · have := h.2.1.2 e he
      rw [hl] at hlt; simp [lastE] at hlt
      have h2 : lastE now = 0 := hlt
      omega
    · obtain ⟨q, hq, hqu⟩ := lastE_mem hl
      have := may_new h he hn q hq
      omega

/-- What is left behind the gone notes. -/
theorem play_gone (l now : List EL) : ∀ j, j ≤ l.length → playL l (goneN l now (l.length - j)) = some (l.take j ++ (l.drop j).filter fun e => isIn now e.uid) := by
  intro j
  induction h : l.length - j generalizing j with
  | zero =>
    intro hj
    have : j = l.length := by omega
    subst this
    simp [goneN, playL]
  | succ n ih =>
    intro hj
    have hlt : j < l.length := by omega
    obtain ⟨e, he⟩ : ∃ e, l[j]? = some e := ⟨_, List.getElem?_eq_getElem hlt⟩
    have hg := goneN_at (now := now) he
    rw [h] at hg
    rw [hg, playL_app]
    have h1 := ih (j + 1) (by omega) (by omega)
    rw [show l.length - (j + 1) = n by omega, h1]
    dsimp only
    have hd : l.drop j = e :: l.drop (j + 1) := by
      rw [List.drop_eq_getElem_cons hlt]
      congr 1
      rw [List.getElem?_eq_getElem hlt] at he
      exact Option.some.inj he
    rw [hd, List.filter_cons, take_at' he]
    by_cases hi : isIn now e.uid
    · rw [if_pos hi, if_pos hi]; simp [playL]
    · rw [if_neg hi, if_neg hi]
      simp only [playL]
      have hlen : (l.take j).length = j := by rw [List.length_take]; omega
      have hst : stepL (l.take j ++ [e] ++ List.filter (fun e => isIn now e.uid) (l.drop (j + 1))) ⟨0, ((j + 1 : Nat) : Int), noE⟩ = some (l.take j ++ List.filter (fun e => isIn now e.uid) (l.drop (j + 1))) := by
        unfold stepL
        simp only
        rw [if_neg (by decide), if_neg (by simp only [List.length_append, List.length_singleton, hlen]; omega), if_neg (by decide)]
        congr 1
        rw [show ((j + 1 : Nat) : Int).toNat - 1 = j by omega, List.append_assoc, List.eraseIdx_append_of_length_le (by omega), hlen, Nat.sub_self]
        rfl
      rw [hst]

theorem uids_eq : ∀ (a b : List Nat), a.Pairwise (· < ·) → b.Pairwise (· < ·) → (∀ x, x ∈ a ↔ x ∈ b) → a = b := by
  intro a b ha hb h
  refine List.Perm.eq_of_pairwise (le := fun x y => x < y) (fun x y _ _ h1 h2 => by omega) ha hb ?_
  refine (List.perm_ext_iff_of_nodup (ha.imp fun h => Nat.ne_of_lt h) (hb.imp fun h => Nat.ne_of_lt h)).2 h
/-- now's numbers: those that are left of l, then the new ones. -/
theorem may_split (h : MayE l now) : now.map (·.uid) = ((l.filter fun e => isIn now e.uid).map (·.uid)) ++ ((now.filter fun e => !isIn l e.uid).map (·.uid)) := by
  refine uids_eq _ _ ?_ ?_ ?_
  · exact List.pairwise_map.2 h.2.1.1
  · refine List.pairwise_append.2 ⟨List.pairwise_map.2 (h.1.1.filter _), List.pairwise_map.2 (h.2.1.1.filter _), ?_⟩
    intro x hx y hy
    obtain ⟨a, ha, rfl⟩ := List.mem_map.1 hx
    obtain ⟨b, hb, rfl⟩ := List.mem_map.1 hy
    rw [List.mem_filter] at ha hb
    exact may_new h hb.1 (by simpa using hb.2) a ha.1
  · intro x
    rw [List.mem_append, List.mem_map, List.mem_map, List.mem_map]
    constructor
    · rintro ⟨e, he, rfl⟩
      cases hi : isIn l e.uid with
      | true =>
        obtain ⟨q, hq, hqu⟩ := isIn_iff.1 hi
        exact .inl ⟨q, List.mem_filter.2 ⟨hq, isIn_iff.2 ⟨e, he, hqu.symm⟩⟩, hqu⟩
      | false => exact .inr ⟨e, List.mem_filter.2 ⟨he, by rw [hi]; rfl⟩, rfl⟩
    · rintro (⟨e, he, rfl⟩ | ⟨e, he, rfl⟩)
      · rw [List.mem_filter] at he
        obtain ⟨q, hq, hqu⟩ := isIn_iff.1 he.2
        exact ⟨q, hq, hqu⟩
      · exact ⟨e, (List.mem_filter.1 he).1, rfl⟩
theorem may_len (h : MayE l now) : now.length = (l.filter fun e => isIn now e.uid).length + (now.filter fun e => !isIn l e.uid).length := by
  have := congrArg List.length (may_split h)
  simpa using this
/-- An entry of now that stands in l already stands at its place among those that are left. -/
theorem may_left (h : MayE l now) {n : Nat} {e : EL} (he : now[n]? = some e) (hk : keepB l e = true) : (l.filter fun e => isIn now e.uid)[n]? = some e := by
  have hi : isIn l e.uid = true := by
    cases hi : isIn l e.uid with
    | true => rfl
    | false => rw [keepB_none hi] at hk; cases hk
  obtain ⟨k, q, _, hq, hqu, hf⟩ := findI_some (l := l) (u := e.uid) (fun hn => by rw [findI_neg.1 hn] at hi; cases hi)
  have hqe : q = e := by
    rw [keepB_some hf] at hk
    have h2 : q.fl = e.fl := of_decide_eq_true hk
    cases q; cases e; simp_all
  subst hqe
  have hq2 : q ∈ l.filter fun e => isIn now e.uid := List.mem_filter.2 ⟨List.mem_of_getElem? hq, isIn_iff.2 ⟨q, List.mem_of_getElem? he, rfl⟩⟩
  obtain ⟨m, hm, hmq⟩ := List.mem_iff_getElem.1 hq2
  have hsp := may_split h
  have h1 : (now.map (·.uid))[n]? = some q.uid := by rw [List.getElem?_map, he]; rfl
  have h2 : (now.map (·.uid))[m]? = some q.uid := by
    rw [hsp, List.getElem?_append_left (by simpa using hm), List.getElem?_map, List.getElem?_eq_getElem hm, hmq]; rfl
  have hnd : (now.map (·.uid)).Pairwise (· < ·) := List.pairwise_map.2 h.2.1.1
  have hnm : n = m := by
    obtain ⟨hn1, hn2⟩ := List.getElem?_eq_some_iff.1 h1
    obtain ⟨hm1, hm2⟩ := List.getElem?_eq_some_iff.1 h2
    rcases Nat.lt_trichotomy n m with h3 | h3 | h3
    · have := List.pairwise_iff_getElem.1 hnd n m hn1 hm1 h3
      omega
    · exact h3
    · have := List.pairwise_iff_getElem.1 hnd m n hm1 hn1 h3
      omega
  rw [hnm, List.getElem?_eq_getElem hm, hmq]
/-- The list behind the gone notes and the one of new entries. -/
def midL (l now : List EL) : List EL := (l.filter fun e => isIn now e.uid) ++ List.replicate (now.length - (l.filter fun e => isIn now e.uid).length) noE
theorem midL_len (h : MayE l now) : (midL l now).length = now.length := by
  unfold midL
  rw [List.length_append, List.length_replicate]
  have := may_len h
  omega
theorem play_exists (h : MayE l now) (hb : now.length ≤ 65536) : playL l (goneN l now l.length ++ existsN l now) = some (midL l now) := by
  have h1 := play_gone l now 0 (Nat.zero_le _)
  rw [Nat.sub_zero, List.take_zero, List.drop_zero, List.nil_append] at h1
  rw [playL_app, h1]
  dsimp only
  have hl := may_len h
  unfold existsN
  by_cases hf : freshN l now now.length = true
  · rw [if_pos hf]
    simp only [playL]
    have hst : stepL (l.filter fun e => isIn now e.uid) ⟨1, (now.length : Nat), noE⟩ = some (midL l now) := by
      unfold stepL midL
      simp only
      rw [if_pos (by decide), if_neg (by omega)]
      congr 2
    rw [hst]
  · rw [if_neg hf]
    have h0 : (now.filter fun e => !isIn l e.uid) = [] := by
      rw [List.filter_eq_nil_iff]
      intro e he hc
      refine hf ?_
      unfold freshN
      rw [List.take_length, List.any_eq_true]
      exact ⟨e, he, hc⟩
    rw [h0, List.length_nil, Nat.add_zero] at hl
    simp only [playL, midL]
    rw [hl, Nat.sub_self, List.replicate_zero, List.append_nil]
theorem play_fetch (h : MayE l now) : ∀ n, n ≤ now.length → playL (midL l now) (fetchN l now n) = some (now.take n ++ (midL l now).drop n) := by
  intro n
  induction n with
  | zero => intro _; simp [fetchN, playL]
  | succ n ih =>
    intro hn
    obtain ⟨e, he⟩ : ∃ e, now[n]? = some e := ⟨_, List.getElem?_eq_getElem (by omega)⟩
    have hml := midL_len h
    obtain ⟨q, hq⟩ : ∃ q, (midL l now)[n]? = some q := ⟨_, List.getElem?_eq_getElem (by omega)⟩
    have hdq : (midL l now).drop n = q :: (midL l now).drop (n + 1) := by
      rw [List.drop_eq_getElem_cons (by omega)]
      congr 1
      rw [List.getElem?_eq_getElem (by omega)] at hq
      exact Option.some.inj hq
    rw [fetchN_at he, playL_app, ih (by omega)]
    dsimp only
    have hlen : (now.take n).length = n := by rw [List.length_take]; omega
    by_cases hk : keepB l e = true
    · rw [if_pos hk]
      have hqe : q = e := by
        have h1 := may_left h he hk
        have h2 : (midL l now)[n]? = some e := by
          unfold midL
          rw [List.getElem?_append_left (List.getElem?_eq_some_iff.1 h1).1]; exact h1
        rw [hq] at h2; exact Option.some.inj h2
      simp only [playL]
      rw [hdq, hqe, take_at' he, List.append_assoc]; rfl
    · rw [if_neg hk]
      simp only [playL]
      have hst : stepL (now.take n ++ (midL l now).drop n) ⟨2, ((n + 1 : Nat) : Int), e⟩ = some (now.take (n + 1) ++ (midL l now).drop (n + 1)) := by
        unfold stepL
        simp only
        rw [if_neg (by decide), if_neg (by simp only [List.length_append, List.length_drop, hlen]; omega), if_pos (by decide)]
        congr 1
        rw [show ((n + 1 : Nat) : Int).toNat - 1 = n by omega, hdq, List.set_append_right _ _ (by omega), hlen, Nat.sub_self, take_at' he, List.append_assoc]
        rfl
      rw [hst]
/-- A list, and its notes to another one, played, come to that one. -/
theorem play_diff (h : MayE l now) (hb : now.length ≤ 65536) : playL l (diffL l now) = some now := by
  unfold diffL
  rw [playL_app, play_exists h hb]
  dsimp only
  rw [play_fetch h now.length (Nat.le_refl _), List.take_length, List.drop_eq_nil_of_le (by rw [midL_len h]; exact Nat.le_refl _), List.append_nil]
theorem diff_same (h : UpE now) : diffL now now = [] := by
  have hin : ∀ e ∈ now, isIn now e.uid = true := fun e he => isIn_iff.2 ⟨e, he, rfl⟩
  have hg : ∀ n, goneN now now n = [] := by
    intro n
    induction n with
    | zero => rfl
    | succ n ih =>
      rw [goneN, ih]
      split
      · rfl
      · rename_i e he
        rw [if_pos (hin e (List.mem_of_getElem? he))]; rfl
  have hf : ∀ n, fetchN now now n = [] := by
    intro n
    induction n with
    | zero => rfl
    | succ n ih =>
      rw [fetchN, ih]
      split
      · rfl
      · rename_i e he
        have := getE_at h he rfl
        rw [if_pos (by rw [keepB_get, this]; simp)]; rfl
  have he : existsN now now = [] := by
    unfold existsN
    rw [if_neg]
    unfold freshN
    rw [List.take_length, Bool.not_eq_true, List.any_eq_false]
    intro e he hc
    rw [hin e he] at hc; cases hc
  unfold diffL
  rw [hg, hf, he]; rfl
end
end Go.Proofs.Ytebkpejiloabnaa

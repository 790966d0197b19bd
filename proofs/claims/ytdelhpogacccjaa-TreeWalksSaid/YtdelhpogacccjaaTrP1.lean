/-
  What a walk through a tree hands out: its slots, each branch ahead of what stands below it; its messages.
-/
import Derived.Test.YtdelhpogacccjaaTrS1
set_option linter.unusedVariables false
set_option linter.unusedSimpArgs false
namespace Go.Proofs.Ytdelhpogacccjaa
open Go Go.RowKit

/-- The slots from one on, with their nodes. -/
def preN (ns : List TN) : Nat → Int → List (Int × TN)
  | 0, s => if (nodeOf ns s (-1)).2 = true then [(s, (nodeOf ns s (-1)).1)] else []
  | k + 1, s => if (nodeOf ns s k).2 = true then (s, (nodeOf ns s k).1) :: (List.range 16).flatMap (fun d => preN ns k ((nodeOf ns s k).1.kids d)) else []
theorem preN_no (ns : List TN) (k : Nat) : preN ns k (-1) = [] := by
  cases k <;> (unfold preN; rw [nodeOf_no]; rfl)
/-- Those below the first digits. -/
def preTo (ns : List TN) (k : Nat) (n : TN) (i : Nat) : List (Int × TN) := (List.range i).flatMap fun d => preN ns k (n.kids d)
theorem preTo_succ (ns : List TN) (k : Nat) (n : TN) (i : Nat) : preTo ns k n (i + 1) = preTo ns k n i ++ preN ns k (n.kids i) := by
  unfold preTo
  rw [List.range_succ, List.flatMap_append, List.flatMap_singleton]
theorem preN_branch {ns : List TN} {k : Nat} {s : Int} {n : TN} (h : nodeOf ns s k = (n, true)) : preN ns (k + 1) s = (s, n) :: preTo ns k n 16 := by
  show (if (nodeOf ns s k).2 = true then _ else _) = _
  rw [h, if_pos rfl]
  rfl
theorem preN_leaf {ns : List TN} {s : Int} {n : TN} (h : nodeOf ns s (-1) = (n, true)) : preN ns 0 s = [(s, n)] := by
  show (if (nodeOf ns s (-1)).2 = true then _ else _) = _
  rw [h, if_pos rfl]
/-- The messages of what is handed out. -/
def recsOf (l : List (Int × TN)) : List R7 := l.filterMap fun x => if x.2.kind = 2 then some x.2.rc else none
theorem recsOf_app (a b : List (Int × TN)) : recsOf (a ++ b) = recsOf a ++ recsOf b := by unfold recsOf; rw [List.filterMap_append]
theorem Sub.kind {ns : List TN} {k : Nat} {s : Int} {l : List R7} (h : Sub ns (k + 1) s l) : ∃ n, nodeOf ns s k = (n, true) ∧ n.kind = 1 ∧ ∀ d, d < 16 → SubO ns k (n.kids d) (part k d l) := by
  obtain ⟨h0, _, n, h1, h2, h3, h4⟩ := h
  refine ⟨n, ?_, h2, h4⟩
  unfold nodeOf
  rw [if_neg (by omega), h1, if_neg (show ¬ (k : Int) = -1 by omega), if_pos ⟨rfl, h2⟩]
theorem Sub.leafK {ns : List TN} {s : Int} {l : List R7} (h : Sub ns 0 s l) : ∃ n, nodeOf ns s (-1) = (n, true) ∧ l = [n.rc] ∧ n.kind = 2 := by
  obtain ⟨h0, r, n, h1, h2, h3, h4, h5⟩ := h
  refine ⟨n, ?_, by rw [h4]; exact h1, h3⟩
  unfold nodeOf
  rw [if_neg (by omega), h2, if_pos rfl]
  simp [h3]
theorem recs_sub {ns : List TN} (k : Nat) : ∀ {s : Int} {l : List R7}, SubO ns k s l → Up l → Agree l k → recsOf (preN ns k s) = l := by
  induction k with
  | zero =>
    intro s l h _ _
    rcases h with ⟨rfl, rfl⟩ | h
    · rw [preN_no]; rfl
    · obtain ⟨n, h1, h2, h3⟩ := h.leafK
      rw [preN_leaf h1, h2]
      simp [recsOf, h3]
  | succ k ih =>
    intro s l h hu ha
    rcases h with ⟨rfl, rfl⟩ | h
    · rw [preN_no]; rfl
    · obtain ⟨n, h1, h2, h3⟩ := h.kind
      rw [preN_branch h1]
      have step : ∀ i, i ≤ 16 → recsOf (preTo ns k n i) = upto k i l := by
        intro i
        induction i with
        | zero => intro _; rw [upto_zero]; rfl
        | succ i ih2 =>
          intro hi
          rw [preTo_succ, recsOf_app, ih2 (by omega), upto_succ ha hu, ih (h3 i (by omega)) (hu.filter _) (ha.part i)]
      have h16 := step 16 (Nat.le_refl _)
      rw [upto_all] at h16
      have : recsOf ((s, n) :: preTo ns k n 16) = recsOf (preTo ns k n 16) := by unfold recsOf; rw [List.filterMap_cons]; simp [h2]
      rw [this, h16]
/-- Nodes one behind the other. -/
def enumF : Nat → List TN → List (Int × TN)
  | _, [] => []
  | o, a :: t => ((o : Int), a) :: enumF (o + 1) t
theorem enumF_app (b : List TN) : ∀ (a : List TN) (o : Nat), enumF o (a ++ b) = enumF o a ++ enumF (o + a.length) b := by
  intro a
  induction a with
  | nil => intro o; rfl
  | cons x t ih =>
    intro o
    rw [List.cons_append, enumF, enumF, ih, List.length_cons, List.cons_append]
    congr 3
    omega
theorem enumF_len : ∀ (a : List TN) (o : Nat), (enumF o a).length = a.length := by
  intro a
  induction a with
  | nil => intro o; rfl
  | cons x t ih => intro o; rw [enumF, List.length_cons, ih, List.length_cons]
theorem enumF_at : ∀ (a : List TN) (o i : Nat), (enumF o a)[i]? = (a[i]?).map fun n => (((o + i : Nat) : Int), n) := by
  intro a
  induction a with
  | nil => intro o i; simp [enumF]
  | cons x t ih =>
    intro o i
    cases i with
    | zero => rfl
    | succ i =>
      rw [enumF, List.getElem?_cons_succ, ih, List.getElem?_cons_succ]
      congr 1
      funext n
      congr 2
      omega
/-- No slot twice. -/
theorem enumF_mem {x : Int × TN} : ∀ {a : List TN} {o : Nat}, x ∈ enumF o a → (o : Int) ≤ x.1 ∧ x.1 < ((o + a.length : Nat) : Int) := by
  intro a
  induction a with
  | nil => intro o h; simp [enumF] at h
  | cons y t ih =>
    intro o h
    rw [enumF] at h
    rw [List.length_cons]
    rcases List.mem_cons.1 h with rfl | h
    · dsimp only; omega
    · have := ih h; omega
theorem enumF_nodup : ∀ (a : List TN) (o : Nat), ((enumF o a).map Prod.fst).Nodup := by
  intro a
  induction a with
  | nil => intro o; simp [enumF]
  | cons y t ih =>
    intro o
    rw [enumF, List.map_cons, List.nodup_cons]
    refine ⟨fun h => ?_, ih (o + 1)⟩
    obtain ⟨x, hx, h2⟩ := List.mem_map.1 h
    have := enumF_mem hx
    dsimp only at h2
    omega
theorem nodeOf_mid (pre post : List TN) (n : TN) (k : Int) (hk : n.kind = if k = -1 then 2 else 1) (s : Nat) (hs : s = pre.length) : nodeOf (pre ++ n :: post) s k = (n, true) := by
  unfold nodeOf
  rw [if_neg (by omega), atOf_mid pre post n (by rw [hk]; split <;> omega) s hs, if_pos ⟨rfl, hk⟩]
/-- A tree as the document stands it hands out its nodes one behind the other. -/
theorem pre_tree (gap k : Nat) : ∀ (at' : Nat) (l : List R7) (pre post : List TN), pre.length = gap + at' → l ≠ [] → Up l → Agree l k →
    preN (pre ++ (treeL k at' l).map (conv gap) ++ post) k ((at' + gap : Nat) : Int) = enumF (at' + gap) ((treeL k at' l).map (conv gap)) := by
  induction k with
  | zero =>
    intro at' l pre post hp hne hu ha
    have h1 : nodeOf (pre ++ (treeL 0 at' l).map (conv gap) ++ post) ((at' + gap : Nat) : Int) (-1) = (conv gap (leafN (l.headD noR)), true) := by
      show nodeOf (pre ++ [conv gap (leafN (l.headD noR))] ++ post) _ _ = _
      rw [List.append_assoc]
      exact nodeOf_mid pre post _ _ rfl _ (by omega)
    rw [preN_leaf h1]
    rfl
  | succ k ih =>
    intro at' l pre post hp hne hu ha
    obtain ⟨B, hB⟩ : ∃ B, conv gap (brN l.length (posF (treeL k) k at' l)) = B := ⟨_, rfl⟩
    have e0 : (treeL (k + 1) at' l).map (conv gap) = B :: (subsF (treeL k) k at' l 16).map (conv gap) := by rw [treeL, List.map_cons, hB]
    obtain ⟨ns, hns⟩ : ∃ ns, pre ++ (treeL (k + 1) at' l).map (conv gap) ++ post = ns := ⟨_, rfl⟩
    have hkid : ∀ d, B.kids d = if 0 ≤ posF (treeL k) k at' l d then posF (treeL k) k at' l d + gap else posF (treeL k) k at' l d := by rw [← hB]; intro d; rfl
    have h1 : nodeOf ns ((at' + gap : Nat) : Int) k = (B, true) := by
      rw [← hns, e0, List.append_assoc, List.cons_append]
      refine nodeOf_mid pre _ B k ?_ _ (by omega)
      rw [if_neg (show ¬ (k : Int) = -1 by omega), ← hB]
      rfl
    rw [hns, preN_branch h1, e0, enumF]
    congr 1
    have step : ∀ i, i ≤ 16 → preTo ns k B i = enumF (at' + gap + 1) ((subsF (treeL k) k at' l i).map (conv gap)) := by
      intro i
      induction i with
      | zero => intro _; rfl
      | succ i ih2 =>
        intro hi
        rw [preTo_succ, ih2 (by omega), subsF]
        by_cases hpt : part k i l = []
        · have e : posF (treeL k) k at' l i = -1 := by unfold posF; rw [if_pos hpt]
          have ek : B.kids i = -1 := by rw [hkid, e]; rfl
          rw [if_pos hpt, ek, preN_no, List.append_nil]
        · have e : posF (treeL k) k at' l i = ((at' + 1 + (subsF (treeL k) k at' l i).length : Nat) : Int) := by unfold posF; rw [if_neg hpt]
          have ek : B.kids i = ((at' + 1 + (subsF (treeL k) k at' l i).length + gap : Nat) : Int) := by rw [hkid, e, if_pos (by omega)]; omega
          rw [if_neg hpt, ek, List.map_append, enumF_app, List.length_map]
          congr 1
          obtain ⟨t, ht⟩ := subs_split (treeL k) k at' l i 16 (by omega) hpt
          have := ih (at' + 1 + (subsF (treeL k) k at' l i).length) (part k i l) (pre ++ B :: (subsF (treeL k) k at' l i).map (conv gap)) (t.map (conv gap) ++ post) (by simp; omega) hpt (hu.filter _) (ha.part i)
          have e2 : ns = (pre ++ B :: (subsF (treeL k) k at' l i).map (conv gap)) ++ (treeL k (at' + 1 + (subsF (treeL k) k at' l i).length) (part k i l)).map (conv gap) ++ (t.map (conv gap) ++ post) := by
            rw [← hns, e0, ht]
            simp
          rw [e2, this]
          congr 1
          omega
    exact step 16 (Nat.le_refl _)
/-- What the law's tree hands out. -/
theorem StandIs.pre {gap more : Nat} {l : List R7} {ns : List TN} {r : Int} {H : Nat} (h : StandIs gap more l ns r H) (hu : Up l) : preN ns H r = enumF gap (ns.drop gap) ∧ recsOf (preN ns H r) = l ∧ (l ≠ [] → gap ≤ ns.length ∧ r = gap) := by
  have ht := h.tree hu
  rcases h with ⟨rfl, rfl, rfl, rfl⟩ | ⟨hne, hH, rfl, rfl⟩
  · exact ⟨by rw [preN_no, List.drop_nil]; rfl, by rw [preN_no]; rfl, fun h => absurd rfl h⟩
  · have hag : Agree l H := ⟨0, fun x hx => Nat.div_eq_of_lt (ht.small x hx)⟩
    have hp := pre_tree gap H 0 l (List.replicate gap noTN) [] (by simp) hne hu hag
    rw [List.append_nil, Nat.zero_add] at hp
    refine ⟨?_, ?_, fun _ => ⟨by rw [List.length_append, List.length_replicate]; omega, rfl⟩⟩
    · rw [hp]
      congr 1
      rw [List.drop_left' (by rw [List.length_replicate])]
    · rcases ht with ⟨h0, _⟩ | ⟨_, _, h1, _⟩
      · exact absurd h0 hne
      · exact recs_sub H (.inr h1) hu hag
end Go.Proofs.Ytdelhpogacccjaa

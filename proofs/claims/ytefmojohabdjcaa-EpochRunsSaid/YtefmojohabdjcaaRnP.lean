/-
  However the steps of an epoch's acts come: what holds of its words, and of what each reader knows of itself.
-/
import Derived.Test.YtefmojohabdjcaaEpM3
set_option linter.unusedVariables false
set_option linter.unusedSimpArgs false
namespace Go.Proofs.Ytefmojohabdjcaa
open Go Go.RowKit

/-- What holds of the act that reader i is at. -/
def PcI (p : EP) (s : ES) (i : Nat) : PC → Prop
  | .done => True
  | .pin0 w => w = i
  | .pin1 w ep => w = i ∧ s.po i = false ∧ ep ≤ s.now
  | .pin2 w ep => w = i ∧ s.po i = false ∧ ep ≤ s.now ∧ s.ws (p.word + 1 + i) = ep + 1
  | .pinN w ep => w = i ∧ s.po i = true ∧ ep = s.pe i + 1 ∧ ep ≤ s.now
  | .unp w => w = i
  | .adv0 => True
  | .adv w ep => ep ≤ s.now ∧ (ep = s.now → ∀ k, k < w → k < p.R → s.po k = true → s.pe k = s.now)
structure PInv (p : EP) (s : ES) (pc : Nat → PC) : Prop where
  wd : s.ws p.word = s.now
  pin : ∀ i, i < p.R → s.po i = true → s.ws (p.word + 1 + i) = s.pe i + 1 ∧ s.pe i ≤ s.now ∧ s.now ≤ s.pe i + 1
  pcs : ∀ i, i < p.R → PcI p s i (pc i)
variable {p : EP} {s s' : ES} {pc : Nat → PC} {i j : Nat}
theorem PcI.other {c : PC} (h : PcI p s j c) (hpo : s'.po j = s.po j) (hpe : s'.pe j = s.pe j) (hws : s'.ws (p.word + 1 + j) = s.ws (p.word + 1 + j))
    (hn : (s'.now = s.now ∧ ∀ k, s'.po k = true → (s.po k = true ∧ s'.pe k = s.pe k) ∨ s'.pe k = s.now) ∨ s.now < s'.now) : PcI p s' j c := by
  have hle : s.now ≤ s'.now := by rcases hn with h | h <;> omega
  cases c with
  | done => trivial
  | pin0 w => exact h
  | pin1 w ep => exact ⟨h.1, hpo.trans h.2.1, Nat.le_trans h.2.2 hle⟩
  | pin2 w ep => exact ⟨h.1, hpo.trans h.2.1, Nat.le_trans h.2.2.1 hle, hws.trans h.2.2.2⟩
  | pinN w ep => exact ⟨h.1, hpo.trans h.2.1, by rw [hpe]; exact h.2.2.1, Nat.le_trans h.2.2.2 hle⟩
  | unp w => exact h
  | adv0 => trivial
  | adv w ep =>
    refine ⟨Nat.le_trans h.1 hle, fun he k hk hkR hpo => ?_⟩
    rcases hn with ⟨hn, hall⟩ | hn
    · rcases hall k hpo with ⟨h1, h2⟩ | h1
      · rw [h2, hn]; exact h.2 (by omega) k hk hkR h1
      · omega
    · have := h.1; omega
/-- A step that leaves the epoch as it is. -/
theorem PInv.quiet (h : PInv p s pc) (hi : i < p.R) (c : PC) (hn : s'.now = s.now) (hwd : s'.ws p.word = s.ws p.word) (ho : ∀ k, k ≠ i → s'.po k = s.po k ∧ s'.pe k = s.pe k ∧ s'.ws (p.word + 1 + k) = s.ws (p.word + 1 + k))
    (hpin : s'.po i = true → (s.po i = true ∧ s'.pe i = s.pe i ∧ s'.ws (p.word + 1 + i) = s.ws (p.word + 1 + i)) ∨ (s'.ws (p.word + 1 + i) = s.now + 1 ∧ s'.pe i = s.now)) (hc : PcI p s' i c) : PInv p s' (put1 pc i c) := by
  refine ⟨by rw [hwd, hn]; exact h.wd, fun k hk hpo => ?_, fun k hk => ?_⟩
  · by_cases hki : k = i
    · subst hki
      rcases hpin hpo with ⟨a, b, c⟩ | ⟨a, b⟩
      · rw [b, c, hn]; exact h.pin k hk a
      · rw [a, b, hn]; omega
    · obtain ⟨a, b, c⟩ := ho k hki
      rw [b, c, hn]; exact h.pin k hk (a ▸ hpo)
  · by_cases hki : k = i
    · subst hki; rw [put1_same]; exact hc
    · rw [put1_other _ _ hki]
      obtain ⟨a, b, c⟩ := ho k hki
      refine (h.pcs k hk).other a b c (.inl ⟨hn, fun k' hpo' => ?_⟩)
      by_cases hk' : k' = i
      · subst hk'
        rcases hpin hpo' with ⟨a, b, c⟩ | ⟨a, b⟩
        · exact .inl ⟨a, b⟩
        · exact .inr b
      · obtain ⟨a, b, c⟩ := ho k' hk'
        exact .inl ⟨a ▸ hpo', b⟩
theorem PInv.step (h : PInv p s pc) (hi : i < p.R) (hd : (pc i).isDone = false) : PInv p (nextE p s (pc i)).1 (put1 pc i (nextE p s (pc i)).2.1) := by
  have hI := h.pcs i hi
  cases hpc : pc i with
  | done => rw [hpc] at hd; cases hd
  | pin0 w =>
    rw [hpc] at hI
    obtain rfl : w = i := hI
    refine h.quiet hi _ rfl rfl (fun k _ => ⟨rfl, rfl, rfl⟩) (fun hp => .inl ⟨hp, rfl, rfl⟩) ?_
    show PcI p s.tick w (if s.po w = false then .pin1 w (s.ws p.word) else if s.ws p.word = s.pe w then .done else .pinN w (s.ws p.word))
    rw [h.wd]
    by_cases h1 : s.po w = false
    · rw [if_pos h1]; exact ⟨rfl, h1, Nat.le_refl _⟩
    · rw [if_neg h1]
      by_cases h2 : s.now = s.pe w
      · rw [if_pos h2]; trivial
      · rw [if_neg h2]
        have h3 : s.po w = true := by simpa using h1
        obtain ⟨a, b, c⟩ := h.pin w hi h3
        exact ⟨rfl, h3, by show s.now = s.pe w + 1; omega, Nat.le_refl _⟩
  | pin1 w ep =>
    rw [hpc] at hI
    obtain ⟨rfl, h1, h2⟩ := hI
    refine h.quiet hi _ rfl (upd_other _ _ _ _ (by omega)) (fun k hk => ⟨rfl, rfl, upd_other _ _ _ _ (by omega)⟩) (fun hp => by rw [show (nextE p s (.pin1 w ep)).1.po w = s.po w from rfl, h1] at hp; cases hp) ?_
    exact ⟨rfl, h1, h2, upd_same _ _ _⟩
  | pin2 w ep =>
    rw [hpc] at hI
    obtain ⟨rfl, h1, h2, h3⟩ := hI
    by_cases he : s.ws p.word = ep
    · have hn : nextE p s (.pin2 w ep) = (s.tick.setPin w ep true, .done, none) := by simp [nextE, he]
      rw [hn]
      have he2 : ep = s.now := by rw [← he]; exact h.wd
      refine h.quiet hi _ rfl rfl (fun k hk => ⟨put1_other _ _ hk, put1_other _ _ hk, rfl⟩) (fun _ => .inr ⟨?_, (put1_same _ _ _).trans he2⟩) trivial
      rw [← he2]; exact h3
    · have hn : nextE p s (.pin2 w ep) = (s.tick, .pin1 w (s.ws p.word), none) := by simp [nextE, he]
      rw [hn]
      refine h.quiet hi _ rfl rfl (fun k _ => ⟨rfl, rfl, rfl⟩) (fun hp => .inl ⟨hp, rfl, rfl⟩) ⟨rfl, h1, ?_⟩
      show s.ws p.word ≤ s.now
      rw [h.wd]; exact Nat.le_refl _
  | pinN w ep =>
    rw [hpc] at hI
    obtain ⟨rfl, h1, h2, h3⟩ := hI
    obtain ⟨a, b, c⟩ := h.pin w hi h1
    have he2 : ep = s.now := by omega
    refine h.quiet hi _ rfl (upd_other _ _ _ _ (by omega)) (fun k hk => ⟨put1_other _ _ hk, put1_other _ _ hk, upd_other _ _ _ _ (by omega)⟩) (fun _ => .inr ⟨(upd_same _ _ _).trans (by rw [he2]), (put1_same _ _ _).trans he2⟩) trivial
  | unp w =>
    rw [hpc] at hI
    obtain rfl : w = i := hI
    refine h.quiet hi _ rfl (upd_other _ _ _ _ (by omega)) (fun k hk => ⟨put1_other _ _ hk, put1_other _ _ hk, upd_other _ _ _ _ (by omega)⟩) (fun hp => by rw [show (nextE p s (.unp w)).1.po w = false from put1_same _ _ _] at hp; cases hp) trivial
  | adv0 =>
    refine h.quiet hi _ rfl rfl (fun k _ => ⟨rfl, rfl, rfl⟩) (fun hp => .inl ⟨hp, rfl, rfl⟩) ⟨?_, fun _ k hk => absurd hk (Nat.not_lt_zero _)⟩
    show s.ws p.word ≤ s.now
    rw [h.wd]; exact Nat.le_refl _
  | adv w ep =>
    rw [hpc] at hI
    obtain ⟨h1, h2⟩ := hI
    by_cases hw : w < p.R
    · have hn : nextE p s (.adv w ep) = (s.tick, if holdsB (s.ws (p.word + 1 + w)) ep then .done else .adv (w + 1) ep, none) := by simp [nextE, hw]
      rw [hn]
      refine h.quiet hi _ rfl rfl (fun k _ => ⟨rfl, rfl, rfl⟩) (fun hp => .inl ⟨hp, rfl, rfl⟩) ?_
      cases hh : holdsB (s.ws (p.word + 1 + w)) ep with
      | true => trivial
      | false =>
        refine ⟨h1, fun he k hk hkR hpo => ?_⟩
        by_cases hkw : k = w
        · subst hkw
          obtain ⟨a, b, c⟩ := h.pin k hw hpo
          unfold holdsB at hh
          rw [a] at hh
          show s.pe k = s.now
          have he' : ep = s.now := he
          by_cases hq : s.pe k + 1 = ep
          · rw [hq] at hh
            simp at hh
            omega
          · omega
        · exact h2 he k (by omega) hkR hpo
    · have hn : nextE p s (.adv w ep) = (s.after p ep, .done, some (s.moves p ep)) := by simp [nextE, hw]
      rw [hn]
      by_cases he : s.ws p.word = ep
      · have he2 : ep = s.now := by rw [← he]; exact h.wd
        have hs : s.after p ep = (s.store p.word (ep + 1)).setNow (ep + 1) := by unfold ES.after; rw [if_pos he]
        have hall : ∀ k, k < p.R → s.po k = true → s.pe k = s.now := fun k hk hpo => h2 he2 k (by omega) hk hpo
        rw [hs]
        have hws : ∀ k, ((s.store p.word (ep + 1)).setNow (ep + 1)).ws (p.word + 1 + k) = s.ws (p.word + 1 + k) := fun k => upd_other _ _ _ _ (by omega)
        refine ⟨upd_same _ _ _, fun k hk hpo => ?_, fun k hk => ?_⟩
        · obtain ⟨a, b, c⟩ := h.pin k hk hpo
          rw [hws]
          refine ⟨a, ?_, ?_⟩
          · show s.pe k ≤ ep + 1; omega
          · show ep + 1 ≤ s.pe k + 1; have := hall k hk hpo; omega
        · by_cases hki : k = i
          · subst hki; rw [put1_same]; trivial
          · rw [put1_other _ _ hki]
            exact (h.pcs k hk).other rfl rfl (hws k) (.inr (by show s.now < ep + 1; omega))
      · have hs : s.after p ep = s.tick := by unfold ES.after; rw [if_neg he]
        rw [hs]
        exact h.quiet hi _ rfl rfl (fun k _ => ⟨rfl, rfl, rfl⟩) (fun hp => .inl ⟨hp, rfl, rfl⟩) trivial
/-- What an act is for: 0 pins, 1 unpins, 2 advances. -/
def kindOf : PC → Nat
  | .done => 3
  | .pin0 _ => 0
  | .pin1 _ _ => 0
  | .pin2 _ _ => 0
  | .pinN _ _ => 0
  | .unp _ => 1
  | .adv0 => 2
  | .adv _ _ => 2
/-- What a step does beside. -/
structure StepF (s : ES) (i : Nat) (c : PC) (r : ES × PC × Option Bool) : Prop where
  other : ∀ j, j ≠ i → r.1.po j = s.po j ∧ r.1.pe j = s.pe j
  kind : r.2.1.isDone = false → kindOf r.2.1 = kindOf c
  pin : kindOf c = 0 → r.1.now = s.now ∧ (r.2.1.isDone = true → r.1.po i = true ∧ r.1.pe i = s.now)
  unp : kindOf c = 1 → r.1.now = s.now ∧ r.2.1.isDone = true ∧ r.1.po i = false
  adv : kindOf c = 2 → r.1.po i = s.po i ∧ r.1.pe i = s.pe i ∧ (r.2.1.isDone = false → r.1.now = s.now ∧ r.2.2 = none) ∧ (r.2.1.isDone = true → r.1.now = s.now + if r.2.2.getD false then 1 else 0)
theorem PInv.facts (h : PInv p s pc) (hi : i < p.R) (hd : (pc i).isDone = false) : StepF s i (pc i) (nextE p s (pc i)) := by
  have hI := h.pcs i hi
  cases hpc : pc i with
  | done => rw [hpc] at hd; cases hd
  | pin0 w =>
    rw [hpc] at hI
    obtain rfl : w = i := hI
    refine ⟨fun j _ => ⟨rfl, rfl⟩, fun hq => ?_, fun _ => ⟨rfl, fun hq => ?_⟩, fun hk => (by cases hk), fun hk => (by cases hk)⟩
    · unfold nextE at hq ⊢
      dsimp only at hq ⊢
      split
      · rfl
      · split
        · rename_i h1 h2; rw [if_neg h1, if_pos h2] at hq; cases hq
        · rfl
    · unfold nextE at hq
      dsimp only at hq
      by_cases h1 : s.po w = false
      · rw [if_pos h1] at hq; cases hq
      · rw [if_neg h1] at hq
        by_cases h2 : s.ws p.word = s.pe w
        · exact ⟨by show s.po w = true; simpa using h1, by show s.pe w = s.now; rw [← h2]; exact h.wd⟩
        · rw [if_neg h2] at hq; cases hq
  | pin1 w ep => exact ⟨fun j _ => ⟨rfl, rfl⟩, fun _ => rfl, fun _ => ⟨rfl, fun hq => (by cases hq)⟩, fun hk => (by cases hk), fun hk => (by cases hk)⟩
  | pin2 w ep =>
    rw [hpc] at hI
    obtain ⟨rfl, h1, h2, h3⟩ := hI
    by_cases he : s.ws p.word = ep
    · have hn : nextE p s (.pin2 w ep) = (s.tick.setPin w ep true, .done, none) := by simp [nextE, he]
      rw [hn]
      have he2 : ep = s.now := by rw [← he]; exact h.wd
      exact ⟨fun j hj => ⟨put1_other _ _ hj, put1_other _ _ hj⟩, fun hq => (by cases hq), fun _ => ⟨rfl, fun _ => ⟨put1_same _ _ _, (put1_same _ _ _).trans he2⟩⟩, fun hk => (by cases hk), fun hk => (by cases hk)⟩
    · have hn : nextE p s (.pin2 w ep) = (s.tick, .pin1 w (s.ws p.word), none) := by simp [nextE, he]
      rw [hn]
      exact ⟨fun j _ => ⟨rfl, rfl⟩, fun _ => rfl, fun _ => ⟨rfl, fun hq => (by cases hq)⟩, fun hk => (by cases hk), fun hk => (by cases hk)⟩
  | pinN w ep =>
    rw [hpc] at hI
    obtain ⟨rfl, h1, h2, h3⟩ := hI
    obtain ⟨a, b, c⟩ := h.pin w hi h1
    have he2 : ep = s.now := by omega
    exact ⟨fun j hj => ⟨put1_other _ _ hj, put1_other _ _ hj⟩, fun hq => (by cases hq), fun _ => ⟨rfl, fun _ => ⟨put1_same _ _ _, (put1_same _ _ _).trans he2⟩⟩, fun hk => (by cases hk), fun hk => (by cases hk)⟩
  | unp w =>
    rw [hpc] at hI
    obtain rfl : w = i := hI
    exact ⟨fun j hj => ⟨put1_other _ _ hj, put1_other _ _ hj⟩, fun hq => (by cases hq), fun hk => (by cases hk), fun _ => ⟨rfl, rfl, put1_same _ _ _⟩, fun hk => (by cases hk)⟩
  | adv0 => exact ⟨fun j _ => ⟨rfl, rfl⟩, fun _ => rfl, fun hk => (by cases hk), fun hk => (by cases hk), fun _ => ⟨rfl, rfl, fun _ => ⟨rfl, rfl⟩, fun hq => (by cases hq)⟩⟩
  | adv w ep =>
    by_cases hw : w < p.R
    · have hn : nextE p s (.adv w ep) = (s.tick, if holdsB (s.ws (p.word + 1 + w)) ep then .done else .adv (w + 1) ep, none) := by simp [nextE, hw]
      rw [hn]
      refine ⟨fun j _ => ⟨rfl, rfl⟩, fun hq => ?_, fun hk => (by cases hk), fun hk => (by cases hk), fun _ => ⟨rfl, rfl, fun _ => ⟨rfl, rfl⟩, fun _ => rfl⟩⟩
      dsimp only at hq ⊢
      split
      · rename_i h1; rw [if_pos h1] at hq; cases hq
      · rfl
    · have hn : nextE p s (.adv w ep) = (s.after p ep, .done, some (s.moves p ep)) := by simp [nextE, hw]
      rw [hn]
      by_cases he : s.ws p.word = ep
      · have he2 : ep = s.now := by rw [← he]; exact h.wd
        have hs : s.after p ep = (s.store p.word (ep + 1)).setNow (ep + 1) := by unfold ES.after; rw [if_pos he]
        have hm : s.moves p ep = true := by unfold ES.moves; simp [he]
        rw [hs, hm]
        exact ⟨fun j _ => ⟨rfl, rfl⟩, fun hq => (by cases hq), fun hk => (by cases hk), fun hk => (by cases hk), fun _ => ⟨rfl, rfl, fun hq => (by cases hq), fun _ => by show ep + 1 = s.now + 1; rw [he2]⟩⟩
      · have hs : s.after p ep = s.tick := by unfold ES.after; rw [if_neg he]
        have hm : s.moves p ep = false := by unfold ES.moves; simp [he]
        rw [hs, hm]
        exact ⟨fun j _ => ⟨rfl, rfl⟩, fun hq => (by cases hq), fun hk => (by cases hk), fun hk => (by cases hk), fun _ => ⟨rfl, rfl, fun hq => (by cases hq), fun _ => rfl⟩⟩
end Go.Proofs.Ytefmojohabdjcaa

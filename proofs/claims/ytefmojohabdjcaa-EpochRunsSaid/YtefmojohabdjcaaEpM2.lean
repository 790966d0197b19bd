/-
  What the call of an act's next step comes to.
-/
import Derived.Test.YtefmojohabdjcaaEpM1
set_option linter.unusedVariables false
set_option linter.unusedSimpArgs false
namespace Go.Proofs.Ytefmojohabdjcaa
open Go Go.RowKit

variable {p : EP} {s : ES} {W W' : World}
theorem Moved.keepV {Vo : Option Nat} {a : Value} {mv : Bool} (hv : Moved (fE p) (fE p) W W') (h : EpAt p s W) (hV : ∀ V, Vo = some V → MvAt W V a mv) : ∀ V, Vo = some V → MvAt W' V a mv := fun V e =>
  (hv.keep (hV V e) (h.notE (hV V e) (by decide) (by decide) (by decide))).1
theorem word_store (s : ES) (p : EP) (who v : Nat) : (s.store (p.word + 1 + who) v).ws p.word = s.ws p.word := upd_other _ _ _ _ (by omega)
theorem clo_c (h : EpAt p s W) (Vo : Option Nat) (b c : Nat) (pc : PC) (a : Value) (mv : Bool) (hb : BoxOK p W Vo b c pc) (hk : okPC p s.t pc) (hV : ∀ V, Vo = some V → MvAt W V a mv) (hw : s.ws p.word ≤ s.t) (ht : s.t < 1000000) (hd : pc.isDone = false) :
    ∃ g lb, cloV p.R b c pc = fv g lb ∧ Enters Try.prog g ∧ Calls Try.prog g lb W fun e w' => CPost p s Vo b c pc a mv W e w' := by
  cases pc with
  | done => cases hd
  | pin0 who =>
    refine ⟨33, capP b, rfl, enters_of Try.func33 (by kernel_rfl) rfl, (pin1_c h b who hb hk ht).mono ?_⟩
    rintro e w' ⟨v, B, rfl, h1, h2, h3, h4⟩
    rcases h4 with ⟨g1, rfl, g3⟩ | ⟨g1, g2, rfl⟩ | ⟨g1, g2, rfl, g3⟩
    · have hn : nextE p s (.pin0 who) = (s.tick, .pin1 who (s.ws p.word), none) := by simp [nextE, g1]
      refine ⟨B, 0, ?_, ?_, ?_, ?_, ?_, h2.toO, ?_, ?_⟩ <;> rw [hn]
      · rfl
      · exact h1
      · exact g3
      · intro k hk'; exact .inr (by rcases hk' with rfl | rfl | rfl <;> omega)
      · exact ⟨hk, by omega⟩
      · exact h2.keepV h hV
      · show s.ws p.word ≤ _; omega
    · have hn : nextE p s (.pin0 who) = (s.tick, .done, none) := by simp [nextE, g1, g2]
      refine ⟨B, 0, ?_, ?_, ?_, ?_, ?_, h2.toO, ?_, ?_⟩ <;> rw [hn]
      · rfl
      · exact h1
      · trivial
      · intro k hk'; exact hk'.elim
      · trivial
      · exact h2.keepV h hV
      · show s.ws p.word ≤ _; omega
    · have hn : nextE p s (.pin0 who) = (s.tick, .pinN who (s.ws p.word), none) := by simp [nextE, g1, g2]
      refine ⟨B, 0, ?_, ?_, ?_, ?_, ?_, h2.toO, ?_, ?_⟩ <;> rw [hn]
      · rfl
      · exact h1
      · exact g3
      · intro k hk'; exact .inr (by rcases hk' with rfl | rfl | rfl <;> omega)
      · exact ⟨hk, by omega⟩
      · exact h2.keepV h hV
      · show s.ws p.word ≤ _; omega
  | pin1 who ep =>
    refine ⟨49, capA3 b, rfl, enters_of Try.func49 (by kernel_rfl) rfl, (pinAt1_c h b who ep hb hk.1 (by have := hk.2; omega) ht).mono ?_⟩
    rintro e w' ⟨rfl, h1, h2, h3⟩
    exact ⟨b, 0, rfl, h1, h3, fun k hk' => .inl hk', ⟨hk.1, by have := hk.2; omega⟩, h2.toO, h2.keepV h hV, by show (s.store (p.word + 1 + who) (ep + 1)).ws p.word ≤ _; rw [word_store]; omega⟩
  | pin2 who ep =>
    refine ⟨50, capB3 b, rfl, enters_of Try.func50 (by kernel_rfl) rfl, (pinAt11_c h b who ep hb hk.1 ht).mono ?_⟩
    rintro e w' ⟨v, B, rfl, h2, h3, h4⟩
    rcases h4 with ⟨g1, rfl, g3, h1⟩ | ⟨g1, rfl, h1⟩
    · have hn : nextE p s (.pin2 who ep) = (s.tick, .pin1 who (s.ws p.word), none) := by simp [nextE, g1]
      refine ⟨B, 0, ?_, ?_, ?_, ?_, ?_, h2.toO, ?_, ?_⟩ <;> rw [hn]
      · rfl
      · exact h1
      · exact g3
      · intro k hk'; exact .inr (by rcases hk' with rfl | rfl | rfl <;> omega)
      · exact ⟨hk.1, by omega⟩
      · exact h2.keepV h hV
      · show s.ws p.word ≤ _; omega
    · have hn : nextE p s (.pin2 who ep) = (s.tick.setPin who ep true, .done, none) := by simp [nextE, g1]
      refine ⟨B, 0, ?_, ?_, ?_, ?_, ?_, h2.toO, ?_, ?_⟩ <;> rw [hn]
      · rfl
      · exact h1
      · trivial
      · intro k hk'; exact hk'.elim
      · trivial
      · exact h2.keepV h hV
      · show s.ws p.word ≤ _; omega
  | pinN who ep =>
    refine ⟨51, capA3 b, rfl, enters_of Try.func51 (by kernel_rfl) rfl, (pinAnew1_c h b who ep hb hk.1 (by have := hk.2; omega) ht).mono ?_⟩
    rintro e w' ⟨rfl, h1, h2⟩
    exact ⟨b, 0, rfl, h1, trivial, fun k hk' => hk'.elim, trivial, h2.toO, h2.keepV h hV, by show (s.store (p.word + 1 + who) (ep + 1)).ws p.word ≤ _; rw [word_store]; omega⟩
  | unp who =>
    refine ⟨37, capP b, rfl, enters_of Try.func37 (by kernel_rfl) rfl, (unpin1_c h b who hb hk ht).mono ?_⟩
    rintro e w' ⟨rfl, h1, h2⟩
    exact ⟨b, 0, rfl, h1, trivial, fun k hk' => hk'.elim, trivial, h2.toO, h2.keepV h hV, by show (s.store (p.word + 1 + who) 0).ws p.word ≤ _; rw [word_store]; omega⟩
  | adv0 =>
    obtain ⟨V, hVo, hb⟩ := hb
    refine ⟨46, capV b c, rfl, enters_of Try.func46 (by kernel_rfl) rfl, (adv1_c h b c V hb ht).mono ?_⟩
    rintro e w' ⟨B, rfl, h1, h2, h3, h4⟩
    exact ⟨B, 0, rfl, h1, ⟨V, hVo, h4⟩, fun k hk' => .inr (by rcases hk' with rfl | rfl | rfl | rfl <;> omega), ⟨Nat.zero_le _, by omega⟩, h2.toO, h2.keepV h hV, by show s.ws p.word ≤ _; omega⟩
  | adv who ep =>
    obtain ⟨V, hVo, hb⟩ := hb
    by_cases hwR : who < p.R
    · refine ⟨56, cap2 b, by show passV p.R who b = _; unfold passV; rw [if_pos hwR], enters_of Try.func56 (by kernel_rfl) rfl, (pass2_c h b V ep who hb hwR ht).mono ?_⟩
      rintro e w' ⟨v, B, rfl, h1, h2, h3, h4⟩
      rcases h4 with ⟨g1, rfl⟩ | ⟨g1, rfl, g3⟩
      · have hn : nextE p s (.adv who ep) = (s.tick, .done, none) := by simp [nextE, hwR, g1]
        refine ⟨B, 0, ?_, ?_, ?_, ?_, ?_, h2.toO, ?_, ?_⟩ <;> rw [hn]
        · rfl
        · exact h1
        · trivial
        · intro k hk'; exact hk'.elim
        · trivial
        · exact h2.keepV h hV
        · show s.ws p.word ≤ _; omega
      · have hn : nextE p s (.adv who ep) = (s.tick, .adv (who + 1) ep, none) := by simp [nextE, hwR, g1]
        refine ⟨B, 0, ?_, ?_, ?_, ?_, ?_, h2.toO, ?_, ?_⟩ <;> rw [hn]
        · rfl
        · exact h1
        · exact ⟨V, hVo, g3⟩
        · intro k hk'; exact .inr (by rcases hk' with rfl | rfl | rfl | rfl <;> omega)
        · exact ⟨hwR, by have := hk.2; omega⟩
        · exact h2.keepV h hV
        · show s.ws p.word ≤ _; omega
    · refine ⟨54, cap1 b, by show passV p.R who b = _; unfold passV; rw [if_neg hwR], enters_of Try.func54 (by kernel_rfl) rfl, (pass1_c h b V ep who hb a mv (hV V hVo) (by have := hk.2; omega) ht).mono ?_⟩
      rintro e w' ⟨rfl, h1, h2, h3⟩
      have hn : nextE p s (.adv who ep) = (s.after p ep, .done, some (s.moves p ep)) := by simp [nextE, hwR]
      have hvo : ∀ k, fO p Vo k ↔ fV p V k := fun k => by
        subst hVo
        exact ⟨fun h => h.imp id (fun e => (Option.some.inj e).symm), fun h => h.imp id (fun e => by rw [e])⟩
      refine ⟨b, 0, ?_, ?_, ?_, ?_, ?_, ⟨h3.os, h3.tape, h3.output, h3.size, fun k hk hn => h3.same k hk (fun hf => hn ((hvo k).2 hf)), fun _ _ h => h⟩, ?_, ?_⟩ <;> rw [hn]
      · rfl
      · exact h1
      · trivial
      · intro k hk'; exact hk'.elim
      · trivial
      · intro V' hV'
        rw [hVo] at hV'
        cases hV'
        exact h2
      · show (s.after p ep).ws p.word ≤ _
        unfold ES.after
        have := hk.2
        split
        · show upd s.ws p.word (ep + 1) p.word ≤ _
          rw [upd_same]; omega
        · show s.ws p.word ≤ _; omega
end Go.Proofs.Ytefmojohabdjcaa

/-
  The law's step, walked: its kinds joined.
-/
import Derived.Test.YtefmojohabdjcaaRnUa
import Derived.Test.YtefmojohabdjcaaRnUb
import Derived.Test.YtefmojohabdjcaaRnU1
import Derived.Test.YtefmojohabdjcaaRnU2
import Derived.Test.YtefmojohabdjcaaRnU3
set_option linter.unusedVariables false
namespace Go.Proofs.Ytefmojohabdjcaa
open Go Go.RowKit

variable {W0 : World} {B : RB} {C : RC} {s : RS} {w w' : World} {n : Nat}
theorem step_c (hI : RInv W0 B C s w) (hL : LInv B n s) (hn : n ≤ 1000) (who : Nat) (hw : who < B.p.R) (la : Option Addr) (lc : Nat) (l : List Nat) (hl : l.length ≤ 40) (hl8 : ∀ x, x ∈ l → x < 256)
    (hlv : ∀ w', Below W0.heap.size W0 w' → RowAt w' (.slice la l.length lc) (l.map fun n : Nat => Value.int .u8 n)) :
    Calls Try.prog 8 #[pW B, .int .i64 who, .slice la l.length lc] w fun e w' => StepOK W0 B (n + 1) e w' := by
  cases hy : l[s.nx who]? with
  | none => exact step_c1 hI hL hn who hw la lc l hl hl8 hlv (fun y h _ => by rw [hy] at h; cases h)
  | some y =>
    have hc : y % 4 = 0 ∨ y % 4 = 1 ∨ y % 4 = 2 ∨ y % 4 = 3 := by omega
    rcases hc with hc | hc | hc | hc
    · cases hp : s.pn who with
      | false => exact step_c0a hI hL hn who hw la lc l hl hl8 hlv (fun z hz _ => by rw [hy] at hz; cases hz; exact hc) hp
      | true => exact step_c0b hI hL hn who hw la lc l hl hl8 hlv (fun z hz _ => by rw [hy] at hz; cases hz; exact hc) hp
    · exact step_c1 hI hL hn who hw la lc l hl hl8 hlv (fun z hz _ => by rw [hy] at hz; cases hz; exact hc)
    · exact step_c2 hI hL hn who hw la lc l hl hl8 hlv (fun z hz _ => by rw [hy] at hz; cases hz; exact hc)
    · exact step_c3 hI hL hn who hw la lc l hl hl8 hlv (fun z hz _ => by rw [hy] at hz; cases hz; exact hc)
end Go.Proofs.Ytefmojohabdjcaa

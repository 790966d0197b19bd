/-
  No cell of these rows narrows 'for every input' (looked for: loops, veiled, ifaces, maps, wideKeys, modest, calm, conditions, laid).
  DERIVED. THE GIVEN ROWS OF THIS SEAT. 4 by the template 'for every input the law returns true; each argument reads behind the call as it read before'; 0 by the template 'total and deterministic' (their statements: YtdelhpogacccjaaTotals.lean).
  GIVEN WITH THE SEED: the statements are not yours to turn. If you find one false, say at which input.
  Laid BY PROGRAM, IN A SANDBOX (cutbox-rows.mjs): the forced cells as the released guide's own fill.sh prints them over the translation 555284b6f48cf195… (all of the seat's roots in one cut). By AI agents, Wed Nov 11 2026. No macro, syntax, notation, axiom, sorry.
-/
import Derived.Test.YtdelhpogacccjaaChecked
import GoSem.Claim
import GoSem.ClaimJoined
import GoSem.ClaimMapViews
import Derived.JoinedTies
import Derived.KernelRfl
namespace Go.Proofs.Ytdelhpogacccjaa
/- THE CELL 'sum', in the pinned program and in every row, IS THE sha256 OF THE DUMP (.gsa) THAT YtdelhpogacccjaaProg.lean LOADS. Nothing in Lean hashes anything: it is a label: what it is worth is what the hold of that sum in a sandbox is worth. -/
noncomputable def Try.pinned : Pinned := { name := "ytdelhpogacccjaa", sum := "555284b6f48cf19567ca99bd64b8ef9d627a833d1ee51e38c7e07c050f7432a5", checked := Try.checked }
namespace Rows
def none {H : Type} : Left H := { results := [], args := [] }

/-- 'postchaiselaw07.TreeWalks': WHATEVER THE INPUT: true; the input reads as it did. -/
def treeWalksSpec : ChangeSpec := { name := "treeWalks", fn := fun _ => fun
  | [d1, d2, d3] => { results := [.lit (.bool true)], args := [d1, d2, d3] }
  | _ => none }
def treeWalksRow : OpenClaim := { program := "ytdelhpogacccjaa", sum := "555284b6f48cf19567ca99bd64b8ef9d627a833d1ee51e38c7e07c050f7432a5", func := "postchaise/postchaiselaw07.TreeWalks", spec := "treeWalks", unfollowed := true, recurses := true, apart := false }
def TreeWalksSaid : Prop := treeWalksRow.holds Try.pinned (OpenSpec.ofChange treeWalksSpec)

/-- ITS FALSE NEIGHBOUR: 'it returns false'. Refute it at one input. -/
def treeWalksWrong : ChangeSpec := { name := "treeWalks", fn := fun _ => fun
  | [d1, d2, d3] => { results := [.lit (.bool false)], args := [d1, d2, d3] }
  | _ => none }
def TreeWalksWrongFalsely : Prop := treeWalksRow.holds Try.pinned (OpenSpec.ofChange treeWalksWrong)

/-- 'postchaiselaw08.VersionHas': WHATEVER THE INPUT: true; the input reads as it did. -/
def versionHasSpec : ChangeSpec := { name := "versionHas", fn := fun _ => fun
  | [d1, d2, d3] => { results := [.lit (.bool true)], args := [d1, d2, d3] }
  | _ => none }
def versionHasRow : OpenClaim := { program := "ytdelhpogacccjaa", sum := "555284b6f48cf19567ca99bd64b8ef9d627a833d1ee51e38c7e07c050f7432a5", func := "postchaise/postchaiselaw08.VersionHas", spec := "versionHas", unfollowed := true, recurses := true, apart := false }
def VersionHasSaid : Prop := versionHasRow.holds Try.pinned (OpenSpec.ofChange versionHasSpec)

/-- ITS FALSE NEIGHBOUR: 'it returns false'. Refute it at one input. -/
def versionHasWrong : ChangeSpec := { name := "versionHas", fn := fun _ => fun
  | [d1, d2, d3] => { results := [.lit (.bool false)], args := [d1, d2, d3] }
  | _ => none }
def VersionHasWrongFalsely : Prop := versionHasRow.holds Try.pinned (OpenSpec.ofChange versionHasWrong)

/-- 'postchaiselaw08.VersionRight': WHATEVER THE INPUT: true; the input reads as it did. -/
def versionRightSpec : ChangeSpec := { name := "versionRight", fn := fun _ => fun
  | [d1, d2, d3] => { results := [.lit (.bool true)], args := [d1, d2, d3] }
  | _ => none }
def versionRightRow : OpenClaim := { program := "ytdelhpogacccjaa", sum := "555284b6f48cf19567ca99bd64b8ef9d627a833d1ee51e38c7e07c050f7432a5", func := "postchaise/postchaiselaw08.VersionRight", spec := "versionRight", unfollowed := true, recurses := true, apart := false }
def VersionRightSaid : Prop := versionRightRow.holds Try.pinned (OpenSpec.ofChange versionRightSpec)

/-- ITS FALSE NEIGHBOUR: 'it returns false'. Refute it at one input. -/
def versionRightWrong : ChangeSpec := { name := "versionRight", fn := fun _ => fun
  | [d1, d2, d3] => { results := [.lit (.bool false)], args := [d1, d2, d3] }
  | _ => none }
def VersionRightWrongFalsely : Prop := versionRightRow.holds Try.pinned (OpenSpec.ofChange versionRightWrong)

/-- 'postchaiselaw08.VersionFills': WHATEVER THE INPUT: true; the input reads as it did. -/
def versionFillsSpec : ChangeSpec := { name := "versionFills", fn := fun _ => fun
  | [d1, d2] => { results := [.lit (.bool true)], args := [d1, d2] }
  | _ => none }
def versionFillsRow : OpenClaim := { program := "ytdelhpogacccjaa", sum := "555284b6f48cf19567ca99bd64b8ef9d627a833d1ee51e38c7e07c050f7432a5", func := "postchaise/postchaiselaw08.VersionFills", spec := "versionFills", unfollowed := true, recurses := true, apart := false }
def VersionFillsSaid : Prop := versionFillsRow.holds Try.pinned (OpenSpec.ofChange versionFillsSpec)

/-- ITS FALSE NEIGHBOUR: 'it returns false'. Refute it at one input. -/
def versionFillsWrong : ChangeSpec := { name := "versionFills", fn := fun _ => fun
  | [d1, d2] => { results := [.lit (.bool false)], args := [d1, d2] }
  | _ => none }
def VersionFillsWrongFalsely : Prop := versionFillsRow.holds Try.pinned (OpenSpec.ofChange versionFillsWrong)

/- THE SECOND FORM. 'bulk': how many values and letters a reading holds, each counted each time it is reached (what is shared counts as often as it is met; a slice's spare places count too). A statement '..UptoSaid' is the law's where the arguments, and the package variables that the reading takes, are together of bulk at most 1048576: NARROWER than '..Said'. Prove '..Said' where nothing that the law and all that it calls make is longer than what came in: it says more and counts as full. Else prove '..UptoSaid'. A law counts once. -/
mutual
def uptoBulk {H : Type} : DataW H → Nat
  | .lit (.string bytes) => bytes.length + 1
  | .lit _ => 1
  | .nil => 1
  | .ptr d => uptoBulk d + 1
  | .slice elems spare => uptoBulkAll elems + uptoBulkAll spare + 1
  | .agg parts => uptoBulkAll parts + 1
  | .iface _ d => uptoBulk d + 1
  | .map entries => uptoBulkEntries entries + 1
  | .held _ => 1
def uptoBulkAll {H : Type} : List (DataW H) → Nat
  | [] => 0
  | d :: r => uptoBulk d + uptoBulkAll r
def uptoBulkEntries {H : Type} : List (Lit × DataW H) → Nat
  | [] => 0
  | x :: r => uptoBulkEntry x + uptoBulkEntries r
def uptoBulkEntry {H : Type} : Lit × DataW H → Nat
  | (.string bytes, d) => bytes.length + uptoBulk d + 1
  | (_, d) => uptoBulk d + 1
 end
def uptoSmall : (H : Type) → List (DataW H) → Bool := fun _ ds => decide (uptoBulkAll ds ≤ 1048576)
def OpenSpec.upto (s : _root_.Go.ChangeSpec) : _root_.Go.OpenSpec := { _root_.Go.OpenSpec.ofChange s with cond := some uptoSmall }

/-- 'postchaiselaw07.TreeWalks', WHERE WHAT IT READS IS OF BULK AT MOST 1048576: true; the input reads as it did. -/
def treeWalksUptoRow : OpenClaim := { program := "ytdelhpogacccjaa", sum := "555284b6f48cf19567ca99bd64b8ef9d627a833d1ee51e38c7e07c050f7432a5", func := "postchaise/postchaiselaw07.TreeWalks", spec := "treeWalks", unfollowed := true, recurses := true, apart := false, narrowed := true }
def TreeWalksUptoSaid : Prop := treeWalksUptoRow.holds Try.pinned (OpenSpec.upto treeWalksSpec)

/-- 'postchaiselaw08.VersionHas', WHERE WHAT IT READS IS OF BULK AT MOST 1048576: true; the input reads as it did. -/
def versionHasUptoRow : OpenClaim := { program := "ytdelhpogacccjaa", sum := "555284b6f48cf19567ca99bd64b8ef9d627a833d1ee51e38c7e07c050f7432a5", func := "postchaise/postchaiselaw08.VersionHas", spec := "versionHas", unfollowed := true, recurses := true, apart := false, narrowed := true }
def VersionHasUptoSaid : Prop := versionHasUptoRow.holds Try.pinned (OpenSpec.upto versionHasSpec)

/-- 'postchaiselaw08.VersionRight', WHERE WHAT IT READS IS OF BULK AT MOST 1048576: true; the input reads as it did. -/
def versionRightUptoRow : OpenClaim := { program := "ytdelhpogacccjaa", sum := "555284b6f48cf19567ca99bd64b8ef9d627a833d1ee51e38c7e07c050f7432a5", func := "postchaise/postchaiselaw08.VersionRight", spec := "versionRight", unfollowed := true, recurses := true, apart := false, narrowed := true }
def VersionRightUptoSaid : Prop := versionRightUptoRow.holds Try.pinned (OpenSpec.upto versionRightSpec)

/-- 'postchaiselaw08.VersionFills', WHERE WHAT IT READS IS OF BULK AT MOST 1048576: true; the input reads as it did. -/
def versionFillsUptoRow : OpenClaim := { program := "ytdelhpogacccjaa", sum := "555284b6f48cf19567ca99bd64b8ef9d627a833d1ee51e38c7e07c050f7432a5", func := "postchaise/postchaiselaw08.VersionFills", spec := "versionFills", unfollowed := true, recurses := true, apart := false, narrowed := true }
def VersionFillsUptoSaid : Prop := versionFillsUptoRow.holds Try.pinned (OpenSpec.upto versionFillsSpec)

end Rows
end Go.Proofs.Ytdelhpogacccjaa

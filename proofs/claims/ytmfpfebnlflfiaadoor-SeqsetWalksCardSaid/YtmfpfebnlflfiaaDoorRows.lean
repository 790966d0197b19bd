/-
  NARROWER THAN 'FOR EVERY INPUT', by the rows' own cells (each row's printed sentence says how): FlagsTells: laid · FlagsParses: laid · FlagsBack: laid · SeqsetParses: laid · SeqsetWalks: laid · SeqsetBack: laid.
  DERIVED. THE GIVEN ROWS OF THIS SEAT. 6 by the template 'for every input the law returns true; each argument reads behind the call as it read before'; 0 by the template 'total and deterministic' (their statements: YtmfpfebnlflfiaaDoorTotals.lean).
  GIVEN WITH THE SEED: the statements are not yours to turn. If you find one false, say at which input.
  Laid BY PROGRAM, IN A SANDBOX (cutbox-rows.mjs): the forced cells as the released guide's own fill.sh prints them over the translation d1c6392b933f7589… (all of the seat's roots in one cut). By AI agents, Wed Nov 11 2026. No macro, syntax, notation, axiom, sorry.
-/
import Derived.Test.YtmfpfebnlflfiaaDoorChecked
import GoSem.Claim
import GoSem.ClaimJoined
import GoSem.ClaimMapViews
import Derived.JoinedTies
import Derived.KernelRfl
namespace Go.Proofs.YtmfpfebnlflfiaaDoor
/- THE CELL 'sum', in the pinned program and in every row, IS THE sha256 OF THE DUMP (.gsa) THAT YtmfpfebnlflfiaaDoorProg.lean LOADS. Nothing in Lean hashes anything: it is a label: what it is worth is what the hold of that sum in a sandbox is worth. -/
noncomputable def Tryd.pinned : Pinned := { name := "ytmfpfebnlflfiaadoor", sum := "d1c6392b933f7589da953f69018a307b146738e19edd01908d8ffdada37412fd", checked := Tryd.checked }
namespace Rows
def none {H : Type} : Left H := { results := [], args := [] }

/- WHAT THE LISTED PACKAGE-LEVEL VARIABLES READ AS WHEN THE CALL BEGINS. Each datum BY PROGRAM (the guide's laid-datum.mjs) off the statement by which the dump's own 'gosem.cut.vars' lays the variable. In a bare row this is a premise. The card (YtmfpfebnlflfiaaDoorCards.lean) ties it to the program's text. -/
def laid_postchaise_flags_names {H : Type} : DataW H := .agg [.lit (.string [92, 65, 110, 115, 119, 101, 114, 101, 100]), .lit (.string [92, 70, 108, 97, 103, 103, 101, 100]), .lit (.string [92, 68, 101, 108, 101, 116, 101, 100]), .lit (.string [92, 83, 101, 101, 110]), .lit (.string [92, 68, 114, 97, 102, 116])]
def laid_math_bits_deBruijn32tab {H : Type} : DataW H := .agg [.lit (.int .u8 0), .lit (.int .u8 1), .lit (.int .u8 28), .lit (.int .u8 2), .lit (.int .u8 29), .lit (.int .u8 14), .lit (.int .u8 24), .lit (.int .u8 3), .lit (.int .u8 30), .lit (.int .u8 22), .lit (.int .u8 20), .lit (.int .u8 15), .lit (.int .u8 25), .lit (.int .u8 17), .lit (.int .u8 4), .lit (.int .u8 8), .lit (.int .u8 31), .lit (.int .u8 27), .lit (.int .u8 13), .lit (.int .u8 23), .lit (.int .u8 21), .lit (.int .u8 19), .lit (.int .u8 16), .lit (.int .u8 7), .lit (.int .u8 26), .lit (.int .u8 12), .lit (.int .u8 18), .lit (.int .u8 6), .lit (.int .u8 11), .lit (.int .u8 5), .lit (.int .u8 10), .lit (.int .u8 9)]
def laid_math_bits_deBruijn64tab {H : Type} : DataW H := .agg [.lit (.int .u8 0), .lit (.int .u8 1), .lit (.int .u8 56), .lit (.int .u8 2), .lit (.int .u8 57), .lit (.int .u8 49), .lit (.int .u8 28), .lit (.int .u8 3), .lit (.int .u8 61), .lit (.int .u8 58), .lit (.int .u8 42), .lit (.int .u8 50), .lit (.int .u8 38), .lit (.int .u8 29), .lit (.int .u8 17), .lit (.int .u8 4), .lit (.int .u8 62), .lit (.int .u8 47), .lit (.int .u8 59), .lit (.int .u8 36), .lit (.int .u8 45), .lit (.int .u8 43), .lit (.int .u8 51), .lit (.int .u8 22), .lit (.int .u8 53), .lit (.int .u8 39), .lit (.int .u8 33), .lit (.int .u8 30), .lit (.int .u8 24), .lit (.int .u8 18), .lit (.int .u8 12), .lit (.int .u8 5), .lit (.int .u8 63), .lit (.int .u8 55), .lit (.int .u8 48), .lit (.int .u8 27), .lit (.int .u8 60), .lit (.int .u8 41), .lit (.int .u8 37), .lit (.int .u8 16), .lit (.int .u8 46), .lit (.int .u8 35), .lit (.int .u8 44), .lit (.int .u8 21), .lit (.int .u8 52), .lit (.int .u8 32), .lit (.int .u8 23), .lit (.int .u8 11), .lit (.int .u8 54), .lit (.int .u8 26), .lit (.int .u8 40), .lit (.int .u8 15), .lit (.int .u8 34), .lit (.int .u8 20), .lit (.int .u8 31), .lit (.int .u8 10), .lit (.int .u8 25), .lit (.int .u8 14), .lit (.int .u8 19), .lit (.int .u8 9), .lit (.int .u8 13), .lit (.int .u8 8), .lit (.int .u8 7), .lit (.int .u8 6)]
def laid_internal_strconv_uint64pow10 {H : Type} : DataW H := .agg [.lit (.int .u64 1), .lit (.int .u64 10), .lit (.int .u64 100), .lit (.int .u64 1000), .lit (.int .u64 10000), .lit (.int .u64 100000), .lit (.int .u64 1000000), .lit (.int .u64 10000000), .lit (.int .u64 100000000), .lit (.int .u64 1000000000), .lit (.int .u64 10000000000), .lit (.int .u64 100000000000), .lit (.int .u64 1000000000000), .lit (.int .u64 10000000000000), .lit (.int .u64 100000000000000), .lit (.int .u64 1000000000000000), .lit (.int .u64 10000000000000000), .lit (.int .u64 100000000000000000), .lit (.int .u64 1000000000000000000), .lit (.int .u64 10000000000000000000)]
def laid_strconv_ErrRange {H : Type} : DataW H := .iface "*errors.errorString" (.ptr (.agg [.lit (.string [118, 97, 108, 117, 101, 32, 111, 117, 116, 32, 111, 102, 32, 114, 97, 110, 103, 101])]))
def laid_strconv_ErrSyntax {H : Type} : DataW H := .iface "*errors.errorString" (.ptr (.agg [.lit (.string [105, 110, 118, 97, 108, 105, 100, 32, 115, 121, 110, 116, 97, 120])]))

/-- 'postchaiselaw01.FlagsTells': WHATEVER THE INPUT: true; the input reads as it did. -/
def flagsTellsSpec : ChangeSpec := { name := "flagsTells", fn := fun _ => fun
  | [d1, d2, d3] => { results := [.lit (.bool true)], args := [d1, d2, d3] }
  | _ => none }
def flagsTellsRow : OpenClaim := { program := "ytmfpfebnlflfiaadoor", sum := "d1c6392b933f7589da953f69018a307b146738e19edd01908d8ffdada37412fd", func := "postchaise/postchaiselaw01.FlagsTells", spec := "flagsTells", inPlace := ["internal/abi.NoEscape", "internal/bytealg.IndexByteString", "internal/bytealg.IndexString"], unfollowed := true, recurses := true, named := ["postchaise/flags.names", "internal/bytealg.MaxLen"], apart := false, laid := [("postchaise/flags.names", laid_postchaise_flags_names)] }
def FlagsTellsSaid : Prop := flagsTellsRow.holds Tryd.pinned (OpenSpec.ofChange flagsTellsSpec)

/-- ITS FALSE NEIGHBOUR: 'it returns false'. Refute it at one input. -/
def flagsTellsWrong : ChangeSpec := { name := "flagsTells", fn := fun _ => fun
  | [d1, d2, d3] => { results := [.lit (.bool false)], args := [d1, d2, d3] }
  | _ => none }
def FlagsTellsWrongFalsely : Prop := flagsTellsRow.holds Tryd.pinned (OpenSpec.ofChange flagsTellsWrong)

/-- 'postchaiselaw01.FlagsParses': WHATEVER THE INPUT: true; the input reads as it did. -/
def flagsParsesSpec : ChangeSpec := { name := "flagsParses", fn := fun _ => fun
  | [d] => { results := [.lit (.bool true)], args := [d] }
  | _ => none }
def flagsParsesRow : OpenClaim := { program := "ytmfpfebnlflfiaadoor", sum := "d1c6392b933f7589da953f69018a307b146738e19edd01908d8ffdada37412fd", func := "postchaise/postchaiselaw01.FlagsParses", spec := "flagsParses", inPlace := ["internal/bytealg.IndexByteString", "internal/bytealg.IndexString", "internal/abi.NoEscape"], unfollowed := true, recurses := true, named := ["internal/bytealg.MaxLen", "postchaise/flags.names"], apart := false, laid := [("postchaise/flags.names", laid_postchaise_flags_names)] }
def FlagsParsesSaid : Prop := flagsParsesRow.holds Tryd.pinned (OpenSpec.ofChange flagsParsesSpec)

/-- ITS FALSE NEIGHBOUR: 'it returns false'. Refute it at one input. -/
def flagsParsesWrong : ChangeSpec := { name := "flagsParses", fn := fun _ => fun
  | [d] => { results := [.lit (.bool false)], args := [d] }
  | _ => none }
def FlagsParsesWrongFalsely : Prop := flagsParsesRow.holds Tryd.pinned (OpenSpec.ofChange flagsParsesWrong)

/-- 'postchaiselaw01.FlagsBack': WHATEVER THE INPUT: true; the input reads as it did. -/
def flagsBackSpec : ChangeSpec := { name := "flagsBack", fn := fun _ => fun
  | [d1, d2] => { results := [.lit (.bool true)], args := [d1, d2] }
  | _ => none }
def flagsBackRow : OpenClaim := { program := "ytmfpfebnlflfiaadoor", sum := "d1c6392b933f7589da953f69018a307b146738e19edd01908d8ffdada37412fd", func := "postchaise/postchaiselaw01.FlagsBack", spec := "flagsBack", inPlace := ["internal/abi.NoEscape", "internal/bytealg.IndexByteString", "internal/bytealg.IndexString"], unfollowed := true, recurses := true, named := ["postchaise/flags.names", "internal/bytealg.MaxLen"], apart := false, laid := [("postchaise/flags.names", laid_postchaise_flags_names)] }
def FlagsBackSaid : Prop := flagsBackRow.holds Tryd.pinned (OpenSpec.ofChange flagsBackSpec)

/-- ITS FALSE NEIGHBOUR: 'it returns false'. Refute it at one input. -/
def flagsBackWrong : ChangeSpec := { name := "flagsBack", fn := fun _ => fun
  | [d1, d2] => { results := [.lit (.bool false)], args := [d1, d2] }
  | _ => none }
def FlagsBackWrongFalsely : Prop := flagsBackRow.holds Tryd.pinned (OpenSpec.ofChange flagsBackWrong)

/-- 'postchaiselaw02.SeqsetParses': WHATEVER THE INPUT: true; the input reads as it did. -/
def seqsetParsesSpec : ChangeSpec := { name := "seqsetParses", fn := fun _ => fun
  | [d] => { results := [.lit (.bool true)], args := [d] }
  | _ => none }
def seqsetParsesRow : OpenClaim := { program := "ytmfpfebnlflfiaadoor", sum := "d1c6392b933f7589da953f69018a307b146738e19edd01908d8ffdada37412fd", func := "postchaise/postchaiselaw02.SeqsetParses", spec := "seqsetParses", inPlace := ["internal/bytealg.IndexByteString", "internal/bytealg.IndexString"], named := ["internal/bytealg.MaxLen", "strconv.ErrSyntax", "strconv.ErrRange", "internal/strconv.uint64pow10", "math/bits.deBruijn32tab", "math/bits.deBruijn64tab"], apart := false, laid := [("math/bits.deBruijn32tab", laid_math_bits_deBruijn32tab), ("math/bits.deBruijn64tab", laid_math_bits_deBruijn64tab), ("internal/strconv.uint64pow10", laid_internal_strconv_uint64pow10), ("strconv.ErrRange", laid_strconv_ErrRange), ("strconv.ErrSyntax", laid_strconv_ErrSyntax)] }
def SeqsetParsesSaid : Prop := seqsetParsesRow.holds Tryd.pinned (OpenSpec.ofChange seqsetParsesSpec)

/-- ITS FALSE NEIGHBOUR: 'it returns false'. Refute it at one input. -/
def seqsetParsesWrong : ChangeSpec := { name := "seqsetParses", fn := fun _ => fun
  | [d] => { results := [.lit (.bool false)], args := [d] }
  | _ => none }
def SeqsetParsesWrongFalsely : Prop := seqsetParsesRow.holds Tryd.pinned (OpenSpec.ofChange seqsetParsesWrong)

/-- 'postchaiselaw02.SeqsetWalks': WHATEVER THE INPUT: true; the input reads as it did. -/
def seqsetWalksSpec : ChangeSpec := { name := "seqsetWalks", fn := fun _ => fun
  | [d1, d2, d3] => { results := [.lit (.bool true)], args := [d1, d2, d3] }
  | _ => none }
def seqsetWalksRow : OpenClaim := { program := "ytmfpfebnlflfiaadoor", sum := "d1c6392b933f7589da953f69018a307b146738e19edd01908d8ffdada37412fd", func := "postchaise/postchaiselaw02.SeqsetWalks", spec := "seqsetWalks", inPlace := ["internal/bytealg.IndexByteString", "internal/bytealg.IndexString"], unfollowed := true, recurses := true, named := ["internal/bytealg.MaxLen", "strconv.ErrSyntax", "strconv.ErrRange", "internal/strconv.uint64pow10", "math/bits.deBruijn32tab", "math/bits.deBruijn64tab"], apart := false, laid := [("math/bits.deBruijn32tab", laid_math_bits_deBruijn32tab), ("math/bits.deBruijn64tab", laid_math_bits_deBruijn64tab), ("internal/strconv.uint64pow10", laid_internal_strconv_uint64pow10), ("strconv.ErrRange", laid_strconv_ErrRange), ("strconv.ErrSyntax", laid_strconv_ErrSyntax)] }
def SeqsetWalksSaid : Prop := seqsetWalksRow.holds Tryd.pinned (OpenSpec.ofChange seqsetWalksSpec)

/-- ITS FALSE NEIGHBOUR: 'it returns false'. Refute it at one input. -/
def seqsetWalksWrong : ChangeSpec := { name := "seqsetWalks", fn := fun _ => fun
  | [d1, d2, d3] => { results := [.lit (.bool false)], args := [d1, d2, d3] }
  | _ => none }
def SeqsetWalksWrongFalsely : Prop := seqsetWalksRow.holds Tryd.pinned (OpenSpec.ofChange seqsetWalksWrong)

/-- 'postchaiselaw02.SeqsetBack': WHATEVER THE INPUT: true; the input reads as it did. -/
def seqsetBackSpec : ChangeSpec := { name := "seqsetBack", fn := fun _ => fun
  | [d1, d2] => { results := [.lit (.bool true)], args := [d1, d2] }
  | _ => none }
def seqsetBackRow : OpenClaim := { program := "ytmfpfebnlflfiaadoor", sum := "d1c6392b933f7589da953f69018a307b146738e19edd01908d8ffdada37412fd", func := "postchaise/postchaiselaw02.SeqsetBack", spec := "seqsetBack", inPlace := ["internal/bytealg.IndexByteString", "internal/bytealg.IndexString"], unfollowed := true, recurses := true, named := ["internal/strconv.uint64pow10", "math/bits.deBruijn32tab", "math/bits.deBruijn64tab", "internal/bytealg.MaxLen", "strconv.ErrSyntax", "strconv.ErrRange"], apart := false, laid := [("math/bits.deBruijn32tab", laid_math_bits_deBruijn32tab), ("math/bits.deBruijn64tab", laid_math_bits_deBruijn64tab), ("internal/strconv.uint64pow10", laid_internal_strconv_uint64pow10), ("strconv.ErrRange", laid_strconv_ErrRange), ("strconv.ErrSyntax", laid_strconv_ErrSyntax)] }
def SeqsetBackSaid : Prop := seqsetBackRow.holds Tryd.pinned (OpenSpec.ofChange seqsetBackSpec)

/-- ITS FALSE NEIGHBOUR: 'it returns false'. Refute it at one input. -/
def seqsetBackWrong : ChangeSpec := { name := "seqsetBack", fn := fun _ => fun
  | [d1, d2] => { results := [.lit (.bool false)], args := [d1, d2] }
  | _ => none }
def SeqsetBackWrongFalsely : Prop := seqsetBackRow.holds Tryd.pinned (OpenSpec.ofChange seqsetBackWrong)

/- THE SECOND FORM. 'bulk': how many values and letters a reading holds, each counted each time it is reached (what is shared counts as often as it is met; a slice's spare places count too). A statement '..UptoSaid' is the law's where the arguments, and the package variables that the reading takes, are together of bulk at most 1048576: NARROWER than '..Said'. Prove '..Said' where nothing that the law and all that it calls make is longer than what came in: it says more and counts as full. Else prove '..UptoSaid'. A law counts once. -/
mutual
def uptoBulk {H : Type} : DataW H → Nat
  | .lit (.string bytes) => bytes.length + 1
  | .lit _ => 1
  | .nil => 1
  | .ptr d => uptoBulk d + 1
  | .slice elems spare => uptoBulkAll elems + uptoBulkAll spare + 1
  | .agg parts => uptoBulkAll parts + 1
  | .iface _ d => uptoBulk d + 1
  | .map entries => uptoBulkEntries entries + 1
  | .held _ => 1
def uptoBulkAll {H : Type} : List (DataW H) → Nat
  | [] => 0
  | d :: r => uptoBulk d + uptoBulkAll r
def uptoBulkEntries {H : Type} : List (Lit × DataW H) → Nat
  | [] => 0
  | x :: r => uptoBulkEntry x + uptoBulkEntries r
def uptoBulkEntry {H : Type} : Lit × DataW H → Nat
  | (.string bytes, d) => bytes.length + uptoBulk d + 1
  | (_, d) => uptoBulk d + 1
 end
def uptoSmall : (H : Type) → List (DataW H) → Bool := fun _ ds => decide (uptoBulkAll ds ≤ 1048576)
def OpenSpec.upto (s : _root_.Go.ChangeSpec) : _root_.Go.OpenSpec := { _root_.Go.OpenSpec.ofChange s with cond := some uptoSmall }

/-- 'postchaiselaw01.FlagsTells', WHERE WHAT IT READS IS OF BULK AT MOST 1048576: true; the input reads as it did. -/
def flagsTellsUptoRow : OpenClaim := { program := "ytmfpfebnlflfiaadoor", sum := "d1c6392b933f7589da953f69018a307b146738e19edd01908d8ffdada37412fd", func := "postchaise/postchaiselaw01.FlagsTells", spec := "flagsTells", inPlace := ["internal/abi.NoEscape", "internal/bytealg.IndexByteString", "internal/bytealg.IndexString"], unfollowed := true, recurses := true, named := ["postchaise/flags.names", "internal/bytealg.MaxLen"], apart := false, laid := [("postchaise/flags.names", laid_postchaise_flags_names)], narrowed := true }
def FlagsTellsUptoSaid : Prop := flagsTellsUptoRow.holds Tryd.pinned (OpenSpec.upto flagsTellsSpec)

/-- 'postchaiselaw01.FlagsParses', WHERE WHAT IT READS IS OF BULK AT MOST 1048576: true; the input reads as it did. -/
def flagsParsesUptoRow : OpenClaim := { program := "ytmfpfebnlflfiaadoor", sum := "d1c6392b933f7589da953f69018a307b146738e19edd01908d8ffdada37412fd", func := "postchaise/postchaiselaw01.FlagsParses", spec := "flagsParses", inPlace := ["internal/bytealg.IndexByteString", "internal/bytealg.IndexString", "internal/abi.NoEscape"], unfollowed := true, recurses := true, named := ["internal/bytealg.MaxLen", "postchaise/flags.names"], apart := false, laid := [("postchaise/flags.names", laid_postchaise_flags_names)], narrowed := true }
def FlagsParsesUptoSaid : Prop := flagsParsesUptoRow.holds Tryd.pinned (OpenSpec.upto flagsParsesSpec)

/-- 'postchaiselaw01.FlagsBack', WHERE WHAT IT READS IS OF BULK AT MOST 1048576: true; the input reads as it did. -/
def flagsBackUptoRow : OpenClaim := { program := "ytmfpfebnlflfiaadoor", sum := "d1c6392b933f7589da953f69018a307b146738e19edd01908d8ffdada37412fd", func := "postchaise/postchaiselaw01.FlagsBack", spec := "flagsBack", inPlace := ["internal/abi.NoEscape", "internal/bytealg.IndexByteString", "internal/bytealg.IndexString"], unfollowed := true, recurses := true, named := ["postchaise/flags.names", "internal/bytealg.MaxLen"], apart := false, laid := [("postchaise/flags.names", laid_postchaise_flags_names)], narrowed := true }
def FlagsBackUptoSaid : Prop := flagsBackUptoRow.holds Tryd.pinned (OpenSpec.upto flagsBackSpec)

/-- 'postchaiselaw02.SeqsetParses', WHERE WHAT IT READS IS OF BULK AT MOST 1048576: true; the input reads as it did. -/
def seqsetParsesUptoRow : OpenClaim := { program := "ytmfpfebnlflfiaadoor", sum := "d1c6392b933f7589da953f69018a307b146738e19edd01908d8ffdada37412fd", func := "postchaise/postchaiselaw02.SeqsetParses", spec := "seqsetParses", inPlace := ["internal/bytealg.IndexByteString", "internal/bytealg.IndexString"], named := ["internal/bytealg.MaxLen", "strconv.ErrSyntax", "strconv.ErrRange", "internal/strconv.uint64pow10", "math/bits.deBruijn32tab", "math/bits.deBruijn64tab"], apart := false, laid := [("math/bits.deBruijn32tab", laid_math_bits_deBruijn32tab), ("math/bits.deBruijn64tab", laid_math_bits_deBruijn64tab), ("internal/strconv.uint64pow10", laid_internal_strconv_uint64pow10), ("strconv.ErrRange", laid_strconv_ErrRange), ("strconv.ErrSyntax", laid_strconv_ErrSyntax)], narrowed := true }
def SeqsetParsesUptoSaid : Prop := seqsetParsesUptoRow.holds Tryd.pinned (OpenSpec.upto seqsetParsesSpec)

/-- 'postchaiselaw02.SeqsetWalks', WHERE WHAT IT READS IS OF BULK AT MOST 1048576: true; the input reads as it did. -/
def seqsetWalksUptoRow : OpenClaim := { program := "ytmfpfebnlflfiaadoor", sum := "d1c6392b933f7589da953f69018a307b146738e19edd01908d8ffdada37412fd", func := "postchaise/postchaiselaw02.SeqsetWalks", spec := "seqsetWalks", inPlace := ["internal/bytealg.IndexByteString", "internal/bytealg.IndexString"], unfollowed := true, recurses := true, named := ["internal/bytealg.MaxLen", "strconv.ErrSyntax", "strconv.ErrRange", "internal/strconv.uint64pow10", "math/bits.deBruijn32tab", "math/bits.deBruijn64tab"], apart := false, laid := [("math/bits.deBruijn32tab", laid_math_bits_deBruijn32tab), ("math/bits.deBruijn64tab", laid_math_bits_deBruijn64tab), ("internal/strconv.uint64pow10", laid_internal_strconv_uint64pow10), ("strconv.ErrRange", laid_strconv_ErrRange), ("strconv.ErrSyntax", laid_strconv_ErrSyntax)], narrowed := true }
def SeqsetWalksUptoSaid : Prop := seqsetWalksUptoRow.holds Tryd.pinned (OpenSpec.upto seqsetWalksSpec)

/-- 'postchaiselaw02.SeqsetBack', WHERE WHAT IT READS IS OF BULK AT MOST 1048576: true; the input reads as it did. -/
def seqsetBackUptoRow : OpenClaim := { program := "ytmfpfebnlflfiaadoor", sum := "d1c6392b933f7589da953f69018a307b146738e19edd01908d8ffdada37412fd", func := "postchaise/postchaiselaw02.SeqsetBack", spec := "seqsetBack", inPlace := ["internal/bytealg.IndexByteString", "internal/bytealg.IndexString"], unfollowed := true, recurses := true, named := ["internal/strconv.uint64pow10", "math/bits.deBruijn32tab", "math/bits.deBruijn64tab", "internal/bytealg.MaxLen", "strconv.ErrSyntax", "strconv.ErrRange"], apart := false, laid := [("math/bits.deBruijn32tab", laid_math_bits_deBruijn32tab), ("math/bits.deBruijn64tab", laid_math_bits_deBruijn64tab), ("internal/strconv.uint64pow10", laid_internal_strconv_uint64pow10), ("strconv.ErrRange", laid_strconv_ErrRange), ("strconv.ErrSyntax", laid_strconv_ErrSyntax)], narrowed := true }
def SeqsetBackUptoSaid : Prop := seqsetBackUptoRow.holds Tryd.pinned (OpenSpec.upto seqsetBackSpec)

end Rows
end Go.Proofs.YtmfpfebnlflfiaaDoor

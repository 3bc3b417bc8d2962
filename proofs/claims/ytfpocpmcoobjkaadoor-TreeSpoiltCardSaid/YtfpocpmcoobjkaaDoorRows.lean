/-
  NARROWER THAN 'FOR EVERY INPUT', by the rows' own cells (each row's printed sentence says how): TreeChecks: loops, laid · TreeSames: loops, laid · TreeCounts: loops, laid · TreeNames: laid · TreeSpoilt: loops, laid · TreeRegular: laid.
  DERIVED. THE GIVEN ROWS OF THIS SEAT. 6 by the template 'for every input the law returns true; each argument reads behind the call as it read before'; 0 by the template 'total and deterministic' (their statements: YtfpocpmcoobjkaaDoorTotals.lean).
  GIVEN WITH THE SEED: the statements are not yours to turn. If you find one false, say at which input.
  Laid BY PROGRAM, IN A SANDBOX (cutbox-rows.mjs): the forced cells as the released guide's own fill.sh prints them over the translation 7cb2c618829e186c… (all of the seat's roots in one cut). By AI agents, Wed Nov 11 2026. No macro, syntax, notation, axiom, sorry.
-/
import Derived.Test.YtfpocpmcoobjkaaDoorChecked
import GoSem.Claim
import GoSem.ClaimJoined
import GoSem.ClaimMapViews
import Derived.JoinedTies
import Derived.KernelRfl
namespace Go.Proofs.YtfpocpmcoobjkaaDoor
/- THE CELL 'sum', in the pinned program and in every row, IS THE sha256 OF THE DUMP (.gsa) THAT YtfpocpmcoobjkaaDoorProg.lean LOADS. Nothing in Lean hashes anything: it is a label: what it is worth is what the hold of that sum in a sandbox is worth. -/
noncomputable def Tryd.pinned : Pinned := { name := "ytfpocpmcoobjkaadoor", sum := "7cb2c618829e186c10f8510c0515f1b96fb11be62cf56bba92b1463ec9815a52", checked := Tryd.checked }
namespace Rows
def none {H : Type} : Left H := { results := [], args := [] }

/- WHAT THE LISTED PACKAGE-LEVEL VARIABLES READ AS WHEN THE CALL BEGINS. Each datum BY PROGRAM (the guide's laid-datum.mjs) off the statement by which the dump's own 'gosem.cut.vars' lays the variable. In a bare row this is a premise. The card (YtfpocpmcoobjkaaDoorCards.lean) ties it to the program's text. -/
def laid_propylon_tree_words {H : Type} : DataW H := .agg [.agg [.lit (.int .i64 1), .lit (.string [100, 111, 117, 98, 108, 101])], .agg [.lit (.int .i64 2), .lit (.string [115, 116, 114, 105, 110, 103])], .agg [.lit (.int .i64 3), .lit (.string [100, 111, 99, 117, 109, 101, 110, 116])], .agg [.lit (.int .i64 4), .lit (.string [97, 114, 114, 97, 121])], .agg [.lit (.int .i64 5), .lit (.string [98, 105, 110, 97, 114, 121])], .agg [.lit (.int .i64 6), .lit (.string [117, 110, 100, 101, 102, 105, 110, 101, 100])], .agg [.lit (.int .i64 7), .lit (.string [111, 98, 106, 101, 99, 116, 105, 100])], .agg [.lit (.int .i64 8), .lit (.string [98, 111, 111, 108])], .agg [.lit (.int .i64 9), .lit (.string [100, 97, 116, 101])], .agg [.lit (.int .i64 10), .lit (.string [110, 117, 108, 108])], .agg [.lit (.int .i64 11), .lit (.string [114, 101, 103, 101, 120])], .agg [.lit (.int .i64 12), .lit (.string [112, 111, 105, 110, 116, 101, 114])], .agg [.lit (.int .i64 13), .lit (.string [99, 111, 100, 101])], .agg [.lit (.int .i64 14), .lit (.string [115, 121, 109, 98, 111, 108])], .agg [.lit (.int .i64 15), .lit (.string [115, 99, 111, 112, 101, 100])], .agg [.lit (.int .i64 16), .lit (.string [105, 110, 116, 51, 50])], .agg [.lit (.int .i64 17), .lit (.string [116, 105, 109, 101, 115, 116, 97, 109, 112])], .agg [.lit (.int .i64 18), .lit (.string [105, 110, 116, 54, 52])], .agg [.lit (.int .i64 19), .lit (.string [100, 101, 99, 105, 109, 97, 108])], .agg [.lit (.int .i64 127), .lit (.string [109, 97, 120, 107, 101, 121])], .agg [.lit (.int .i64 255), .lit (.string [109, 105, 110, 107, 101, 121])]]
def laid_math_bits_deBruijn32tab {H : Type} : DataW H := .agg [.lit (.int .u8 0), .lit (.int .u8 1), .lit (.int .u8 28), .lit (.int .u8 2), .lit (.int .u8 29), .lit (.int .u8 14), .lit (.int .u8 24), .lit (.int .u8 3), .lit (.int .u8 30), .lit (.int .u8 22), .lit (.int .u8 20), .lit (.int .u8 15), .lit (.int .u8 25), .lit (.int .u8 17), .lit (.int .u8 4), .lit (.int .u8 8), .lit (.int .u8 31), .lit (.int .u8 27), .lit (.int .u8 13), .lit (.int .u8 23), .lit (.int .u8 21), .lit (.int .u8 19), .lit (.int .u8 16), .lit (.int .u8 7), .lit (.int .u8 26), .lit (.int .u8 12), .lit (.int .u8 18), .lit (.int .u8 6), .lit (.int .u8 11), .lit (.int .u8 5), .lit (.int .u8 10), .lit (.int .u8 9)]
def laid_math_bits_deBruijn64tab {H : Type} : DataW H := .agg [.lit (.int .u8 0), .lit (.int .u8 1), .lit (.int .u8 56), .lit (.int .u8 2), .lit (.int .u8 57), .lit (.int .u8 49), .lit (.int .u8 28), .lit (.int .u8 3), .lit (.int .u8 61), .lit (.int .u8 58), .lit (.int .u8 42), .lit (.int .u8 50), .lit (.int .u8 38), .lit (.int .u8 29), .lit (.int .u8 17), .lit (.int .u8 4), .lit (.int .u8 62), .lit (.int .u8 47), .lit (.int .u8 59), .lit (.int .u8 36), .lit (.int .u8 45), .lit (.int .u8 43), .lit (.int .u8 51), .lit (.int .u8 22), .lit (.int .u8 53), .lit (.int .u8 39), .lit (.int .u8 33), .lit (.int .u8 30), .lit (.int .u8 24), .lit (.int .u8 18), .lit (.int .u8 12), .lit (.int .u8 5), .lit (.int .u8 63), .lit (.int .u8 55), .lit (.int .u8 48), .lit (.int .u8 27), .lit (.int .u8 60), .lit (.int .u8 41), .lit (.int .u8 37), .lit (.int .u8 16), .lit (.int .u8 46), .lit (.int .u8 35), .lit (.int .u8 44), .lit (.int .u8 21), .lit (.int .u8 52), .lit (.int .u8 32), .lit (.int .u8 23), .lit (.int .u8 11), .lit (.int .u8 54), .lit (.int .u8 26), .lit (.int .u8 40), .lit (.int .u8 15), .lit (.int .u8 34), .lit (.int .u8 20), .lit (.int .u8 31), .lit (.int .u8 10), .lit (.int .u8 25), .lit (.int .u8 14), .lit (.int .u8 19), .lit (.int .u8 9), .lit (.int .u8 13), .lit (.int .u8 8), .lit (.int .u8 7), .lit (.int .u8 6)]
def laid_internal_strconv_uint64pow10 {H : Type} : DataW H := .agg [.lit (.int .u64 1), .lit (.int .u64 10), .lit (.int .u64 100), .lit (.int .u64 1000), .lit (.int .u64 10000), .lit (.int .u64 100000), .lit (.int .u64 1000000), .lit (.int .u64 10000000), .lit (.int .u64 100000000), .lit (.int .u64 1000000000), .lit (.int .u64 10000000000), .lit (.int .u64 100000000000), .lit (.int .u64 1000000000000), .lit (.int .u64 10000000000000), .lit (.int .u64 100000000000000), .lit (.int .u64 1000000000000000), .lit (.int .u64 10000000000000000), .lit (.int .u64 100000000000000000), .lit (.int .u64 1000000000000000000), .lit (.int .u64 10000000000000000000)]

/-- 'propylonlaw17.TreeChecks': WHATEVER THE INPUT: true; the input reads as it did. -/
def treeChecksSpec : ChangeSpec := { name := "treeChecks", fn := fun _ => fun
  | [d] => { results := [.lit (.bool true)], args := [d] }
  | _ => none }
def treeChecksRow : OpenClaim := { program := "ytfpocpmcoobjkaadoor", sum := "7cb2c618829e186c10f8510c0515f1b96fb11be62cf56bba92b1463ec9815a52", func := "propylon/propylonlaw17.TreeChecks", spec := "treeChecks", inPlace := ["internal/bytealg.IndexByteString"], recurses := true, named := ["propylon/tree.words"], loops := true, apart := false, laid := [("propylon/tree.words", laid_propylon_tree_words)] }
def TreeChecksSaid : Prop := treeChecksRow.holds Tryd.pinned (OpenSpec.ofChange treeChecksSpec)

/-- ITS FALSE NEIGHBOUR: 'it returns false'. Refute it at one input. -/
def treeChecksWrong : ChangeSpec := { name := "treeChecks", fn := fun _ => fun
  | [d] => { results := [.lit (.bool false)], args := [d] }
  | _ => none }
def TreeChecksWrongFalsely : Prop := treeChecksRow.holds Tryd.pinned (OpenSpec.ofChange treeChecksWrong)

/-- 'propylonlaw17.TreeSames': WHATEVER THE INPUT: true; the input reads as it did. -/
def treeSamesSpec : ChangeSpec := { name := "treeSames", fn := fun _ => fun
  | [d1, d2] => { results := [.lit (.bool true)], args := [d1, d2] }
  | _ => none }
def treeSamesRow : OpenClaim := { program := "ytfpocpmcoobjkaadoor", sum := "7cb2c618829e186c10f8510c0515f1b96fb11be62cf56bba92b1463ec9815a52", func := "propylon/propylonlaw17.TreeSames", spec := "treeSames", inPlace := ["internal/bytealg.IndexByteString"], recurses := true, named := ["propylon/tree.words"], loops := true, apart := false, laid := [("propylon/tree.words", laid_propylon_tree_words)] }
def TreeSamesSaid : Prop := treeSamesRow.holds Tryd.pinned (OpenSpec.ofChange treeSamesSpec)

/-- ITS FALSE NEIGHBOUR: 'it returns false'. Refute it at one input. -/
def treeSamesWrong : ChangeSpec := { name := "treeSames", fn := fun _ => fun
  | [d1, d2] => { results := [.lit (.bool false)], args := [d1, d2] }
  | _ => none }
def TreeSamesWrongFalsely : Prop := treeSamesRow.holds Tryd.pinned (OpenSpec.ofChange treeSamesWrong)

/-- 'propylonlaw17.TreeCounts': WHATEVER THE INPUT: true; the input reads as it did. -/
def treeCountsSpec : ChangeSpec := { name := "treeCounts", fn := fun _ => fun
  | [d] => { results := [.lit (.bool true)], args := [d] }
  | _ => none }
def treeCountsRow : OpenClaim := { program := "ytfpocpmcoobjkaadoor", sum := "7cb2c618829e186c10f8510c0515f1b96fb11be62cf56bba92b1463ec9815a52", func := "propylon/propylonlaw17.TreeCounts", spec := "treeCounts", inPlace := ["internal/bytealg.IndexByteString"], recurses := true, named := ["propylon/tree.words", "internal/strconv.uint64pow10", "math/bits.deBruijn32tab", "math/bits.deBruijn64tab"], loops := true, apart := false, laid := [("math/bits.deBruijn32tab", laid_math_bits_deBruijn32tab), ("math/bits.deBruijn64tab", laid_math_bits_deBruijn64tab), ("internal/strconv.uint64pow10", laid_internal_strconv_uint64pow10), ("propylon/tree.words", laid_propylon_tree_words)] }
def TreeCountsSaid : Prop := treeCountsRow.holds Tryd.pinned (OpenSpec.ofChange treeCountsSpec)

/-- ITS FALSE NEIGHBOUR: 'it returns false'. Refute it at one input. -/
def treeCountsWrong : ChangeSpec := { name := "treeCounts", fn := fun _ => fun
  | [d] => { results := [.lit (.bool false)], args := [d] }
  | _ => none }
def TreeCountsWrongFalsely : Prop := treeCountsRow.holds Tryd.pinned (OpenSpec.ofChange treeCountsWrong)

/-- 'propylonlaw17.TreeNames': WHATEVER THE INPUT: true; the input reads as it did. -/
def treeNamesSpec : ChangeSpec := { name := "treeNames", fn := fun _ => fun
  | [d1, d2] => { results := [.lit (.bool true)], args := [d1, d2] }
  | _ => none }
def treeNamesRow : OpenClaim := { program := "ytfpocpmcoobjkaadoor", sum := "7cb2c618829e186c10f8510c0515f1b96fb11be62cf56bba92b1463ec9815a52", func := "propylon/propylonlaw17.TreeNames", spec := "treeNames", inPlace := ["internal/bytealg.IndexByteString"], recurses := true, named := ["propylon/tree.words"], apart := false, laid := [("propylon/tree.words", laid_propylon_tree_words)] }
def TreeNamesSaid : Prop := treeNamesRow.holds Tryd.pinned (OpenSpec.ofChange treeNamesSpec)

/-- ITS FALSE NEIGHBOUR: 'it returns false'. Refute it at one input. -/
def treeNamesWrong : ChangeSpec := { name := "treeNames", fn := fun _ => fun
  | [d1, d2] => { results := [.lit (.bool false)], args := [d1, d2] }
  | _ => none }
def TreeNamesWrongFalsely : Prop := treeNamesRow.holds Tryd.pinned (OpenSpec.ofChange treeNamesWrong)

/-- 'propylonlaw17.TreeSpoilt': WHATEVER THE INPUT: true; the input reads as it did. -/
def treeSpoiltSpec : ChangeSpec := { name := "treeSpoilt", fn := fun _ => fun
  | [d1, d2] => { results := [.lit (.bool true)], args := [d1, d2] }
  | _ => none }
def treeSpoiltRow : OpenClaim := { program := "ytfpocpmcoobjkaadoor", sum := "7cb2c618829e186c10f8510c0515f1b96fb11be62cf56bba92b1463ec9815a52", func := "propylon/propylonlaw17.TreeSpoilt", spec := "treeSpoilt", inPlace := ["internal/bytealg.IndexByteString"], recurses := true, named := ["propylon/tree.words"], loops := true, apart := false, laid := [("propylon/tree.words", laid_propylon_tree_words)] }
def TreeSpoiltSaid : Prop := treeSpoiltRow.holds Tryd.pinned (OpenSpec.ofChange treeSpoiltSpec)

/-- ITS FALSE NEIGHBOUR: 'it returns false'. Refute it at one input. -/
def treeSpoiltWrong : ChangeSpec := { name := "treeSpoilt", fn := fun _ => fun
  | [d1, d2] => { results := [.lit (.bool false)], args := [d1, d2] }
  | _ => none }
def TreeSpoiltWrongFalsely : Prop := treeSpoiltRow.holds Tryd.pinned (OpenSpec.ofChange treeSpoiltWrong)

/-- 'propylonlaw17.TreeRegular': WHATEVER THE INPUT: true; the input reads as it did. -/
def treeRegularSpec : ChangeSpec := { name := "treeRegular", fn := fun _ => fun
  | [d1, d2] => { results := [.lit (.bool true)], args := [d1, d2] }
  | _ => none }
def treeRegularRow : OpenClaim := { program := "ytfpocpmcoobjkaadoor", sum := "7cb2c618829e186c10f8510c0515f1b96fb11be62cf56bba92b1463ec9815a52", func := "propylon/propylonlaw17.TreeRegular", spec := "treeRegular", inPlace := ["internal/bytealg.IndexByteString"], recurses := true, named := ["propylon/tree.words", "internal/strconv.uint64pow10", "math/bits.deBruijn32tab", "math/bits.deBruijn64tab"], apart := false, laid := [("math/bits.deBruijn32tab", laid_math_bits_deBruijn32tab), ("math/bits.deBruijn64tab", laid_math_bits_deBruijn64tab), ("internal/strconv.uint64pow10", laid_internal_strconv_uint64pow10), ("propylon/tree.words", laid_propylon_tree_words)] }
def TreeRegularSaid : Prop := treeRegularRow.holds Tryd.pinned (OpenSpec.ofChange treeRegularSpec)

/-- ITS FALSE NEIGHBOUR: 'it returns false'. Refute it at one input. -/
def treeRegularWrong : ChangeSpec := { name := "treeRegular", fn := fun _ => fun
  | [d1, d2] => { results := [.lit (.bool false)], args := [d1, d2] }
  | _ => none }
def TreeRegularWrongFalsely : Prop := treeRegularRow.holds Tryd.pinned (OpenSpec.ofChange treeRegularWrong)

/- THE SECOND FORM. 'bulk': how many values and letters a reading holds, each counted each time it is reached (what is shared counts as often as it is met; a slice's spare places count too). A statement '..UptoSaid' is the law's where the arguments, and the package variables that the reading takes, are together of bulk at most 1048576: NARROWER than '..Said'. Prove '..Said' where nothing that the law and all that it calls make is longer than what came in: it says more and counts as full. Else prove '..UptoSaid'. A law counts once. -/
mutual
def uptoBulk {H : Type} : DataW H → Nat
  | .lit (.string bytes) => bytes.length + 1
  | .lit _ => 1
  | .nil => 1
  | .ptr d => uptoBulk d + 1
  | .slice elems spare => uptoBulkAll elems + uptoBulkAll spare + 1
  | .agg parts => uptoBulkAll parts + 1
  | .iface _ d => uptoBulk d + 1
  | .map entries => uptoBulkEntries entries + 1
  | .held _ => 1
def uptoBulkAll {H : Type} : List (DataW H) → Nat
  | [] => 0
  | d :: r => uptoBulk d + uptoBulkAll r
def uptoBulkEntries {H : Type} : List (Lit × DataW H) → Nat
  | [] => 0
  | x :: r => uptoBulkEntry x + uptoBulkEntries r
def uptoBulkEntry {H : Type} : Lit × DataW H → Nat
  | (.string bytes, d) => bytes.length + uptoBulk d + 1
  | (_, d) => uptoBulk d + 1
 end
def uptoSmall : (H : Type) → List (DataW H) → Bool := fun _ ds => decide (uptoBulkAll ds ≤ 1048576)
def OpenSpec.upto (s : _root_.Go.ChangeSpec) : _root_.Go.OpenSpec := { _root_.Go.OpenSpec.ofChange s with cond := some uptoSmall }

/-- 'propylonlaw17.TreeChecks', WHERE WHAT IT READS IS OF BULK AT MOST 1048576: true; the input reads as it did. -/
def treeChecksUptoRow : OpenClaim := { program := "ytfpocpmcoobjkaadoor", sum := "7cb2c618829e186c10f8510c0515f1b96fb11be62cf56bba92b1463ec9815a52", func := "propylon/propylonlaw17.TreeChecks", spec := "treeChecks", inPlace := ["internal/bytealg.IndexByteString"], recurses := true, named := ["propylon/tree.words"], loops := true, apart := false, laid := [("propylon/tree.words", laid_propylon_tree_words)], narrowed := true }
def TreeChecksUptoSaid : Prop := treeChecksUptoRow.holds Tryd.pinned (OpenSpec.upto treeChecksSpec)

/-- 'propylonlaw17.TreeSames', WHERE WHAT IT READS IS OF BULK AT MOST 1048576: true; the input reads as it did. -/
def treeSamesUptoRow : OpenClaim := { program := "ytfpocpmcoobjkaadoor", sum := "7cb2c618829e186c10f8510c0515f1b96fb11be62cf56bba92b1463ec9815a52", func := "propylon/propylonlaw17.TreeSames", spec := "treeSames", inPlace := ["internal/bytealg.IndexByteString"], recurses := true, named := ["propylon/tree.words"], loops := true, apart := false, laid := [("propylon/tree.words", laid_propylon_tree_words)], narrowed := true }
def TreeSamesUptoSaid : Prop := treeSamesUptoRow.holds Tryd.pinned (OpenSpec.upto treeSamesSpec)

/-- 'propylonlaw17.TreeCounts', WHERE WHAT IT READS IS OF BULK AT MOST 1048576: true; the input reads as it did. -/
def treeCountsUptoRow : OpenClaim := { program := "ytfpocpmcoobjkaadoor", sum := "7cb2c618829e186c10f8510c0515f1b96fb11be62cf56bba92b1463ec9815a52", func := "propylon/propylonlaw17.TreeCounts", spec := "treeCounts", inPlace := ["internal/bytealg.IndexByteString"], recurses := true, named := ["propylon/tree.words", "internal/strconv.uint64pow10", "math/bits.deBruijn32tab", "math/bits.deBruijn64tab"], loops := true, apart := false, laid := [("math/bits.deBruijn32tab", laid_math_bits_deBruijn32tab), ("math/bits.deBruijn64tab", laid_math_bits_deBruijn64tab), ("internal/strconv.uint64pow10", laid_internal_strconv_uint64pow10), ("propylon/tree.words", laid_propylon_tree_words)], narrowed := true }
def TreeCountsUptoSaid : Prop := treeCountsUptoRow.holds Tryd.pinned (OpenSpec.upto treeCountsSpec)

/-- 'propylonlaw17.TreeNames', WHERE WHAT IT READS IS OF BULK AT MOST 1048576: true; the input reads as it did. -/
def treeNamesUptoRow : OpenClaim := { program := "ytfpocpmcoobjkaadoor", sum := "7cb2c618829e186c10f8510c0515f1b96fb11be62cf56bba92b1463ec9815a52", func := "propylon/propylonlaw17.TreeNames", spec := "treeNames", inPlace := ["internal/bytealg.IndexByteString"], recurses := true, named := ["propylon/tree.words"], apart := false, laid := [("propylon/tree.words", laid_propylon_tree_words)], narrowed := true }
def TreeNamesUptoSaid : Prop := treeNamesUptoRow.holds Tryd.pinned (OpenSpec.upto treeNamesSpec)

/-- 'propylonlaw17.TreeSpoilt', WHERE WHAT IT READS IS OF BULK AT MOST 1048576: true; the input reads as it did. -/
def treeSpoiltUptoRow : OpenClaim := { program := "ytfpocpmcoobjkaadoor", sum := "7cb2c618829e186c10f8510c0515f1b96fb11be62cf56bba92b1463ec9815a52", func := "propylon/propylonlaw17.TreeSpoilt", spec := "treeSpoilt", inPlace := ["internal/bytealg.IndexByteString"], recurses := true, named := ["propylon/tree.words"], loops := true, apart := false, laid := [("propylon/tree.words", laid_propylon_tree_words)], narrowed := true }
def TreeSpoiltUptoSaid : Prop := treeSpoiltUptoRow.holds Tryd.pinned (OpenSpec.upto treeSpoiltSpec)

/-- 'propylonlaw17.TreeRegular', WHERE WHAT IT READS IS OF BULK AT MOST 1048576: true; the input reads as it did. -/
def treeRegularUptoRow : OpenClaim := { program := "ytfpocpmcoobjkaadoor", sum := "7cb2c618829e186c10f8510c0515f1b96fb11be62cf56bba92b1463ec9815a52", func := "propylon/propylonlaw17.TreeRegular", spec := "treeRegular", inPlace := ["internal/bytealg.IndexByteString"], recurses := true, named := ["propylon/tree.words", "internal/strconv.uint64pow10", "math/bits.deBruijn32tab", "math/bits.deBruijn64tab"], apart := false, laid := [("math/bits.deBruijn32tab", laid_math_bits_deBruijn32tab), ("math/bits.deBruijn64tab", laid_math_bits_deBruijn64tab), ("internal/strconv.uint64pow10", laid_internal_strconv_uint64pow10), ("propylon/tree.words", laid_propylon_tree_words)], narrowed := true }
def TreeRegularUptoSaid : Prop := treeRegularUptoRow.holds Tryd.pinned (OpenSpec.upto treeRegularSpec)

end Rows
end Go.Proofs.YtfpocpmcoobjkaaDoor

/-
  NARROWER THAN 'FOR EVERY INPUT', by the rows' own cells (each row's printed sentence says how): PathGets: loops · PathAll: loops · PathDiffs: loops · PathOne: loops.
  DERIVED. THE GIVEN ROWS OF THIS SEAT. 4 by the template 'for every input the law returns true; each argument reads behind the call as it read before'; 0 by the template 'total and deterministic' (their statements: YtmkgcifcfgfegaaTotals.lean).
  GIVEN WITH THE SEED: the statements are not yours to turn. If you find one false, say at which input.
  Laid BY PROGRAM, IN A SANDBOX (cutbox-rows.mjs): the forced cells as the released guide's own fill.sh prints them over the translation 5c383cbd380ffafc… (all of the seat's roots in one cut). By AI agents, Wed Nov 11 2026. No macro, syntax, notation, axiom, sorry.
-/
import Derived.Test.YtmkgcifcfgfegaaChecked
import GoSem.Claim
import GoSem.ClaimJoined
import GoSem.ClaimMapViews
import Derived.JoinedTies
import Derived.KernelRfl
namespace Go.Proofs.Ytmkgcifcfgfegaa
/- THE CELL 'sum', in the pinned program and in every row, IS THE sha256 OF THE DUMP (.gsa) THAT YtmkgcifcfgfegaaProg.lean LOADS. Nothing in Lean hashes anything: it is a label: what it is worth is what the hold of that sum in a sandbox is worth. -/
noncomputable def Try.pinned : Pinned := { name := "ytmkgcifcfgfegaa", sum := "5c383cbd380ffafca5149d690b473b6a8cd54bf42383b28c4a03083e081f5dc8", checked := Try.checked }
namespace Rows
def none {H : Type} : Left H := { results := [], args := [] }

/-- 'propylonlaw18.PathGets': WHATEVER THE INPUT: true; the input reads as it did. -/
def pathGetsSpec : ChangeSpec := { name := "pathGets", fn := fun _ => fun
  | [d1, d2] => { results := [.lit (.bool true)], args := [d1, d2] }
  | _ => none }
def pathGetsRow : OpenClaim := { program := "ytmkgcifcfgfegaa", sum := "5c383cbd380ffafca5149d690b473b6a8cd54bf42383b28c4a03083e081f5dc8", func := "propylon/propylonlaw18.PathGets", spec := "pathGets", recurses := true, loops := true, apart := false }
def PathGetsSaid : Prop := pathGetsRow.holds Try.pinned (OpenSpec.ofChange pathGetsSpec)

/-- ITS FALSE NEIGHBOUR: 'it returns false'. Refute it at one input. -/
def pathGetsWrong : ChangeSpec := { name := "pathGets", fn := fun _ => fun
  | [d1, d2] => { results := [.lit (.bool false)], args := [d1, d2] }
  | _ => none }
def PathGetsWrongFalsely : Prop := pathGetsRow.holds Try.pinned (OpenSpec.ofChange pathGetsWrong)

/-- 'propylonlaw18.PathAll': WHATEVER THE INPUT: true; the input reads as it did. -/
def pathAllSpec : ChangeSpec := { name := "pathAll", fn := fun _ => fun
  | [d] => { results := [.lit (.bool true)], args := [d] }
  | _ => none }
def pathAllRow : OpenClaim := { program := "ytmkgcifcfgfegaa", sum := "5c383cbd380ffafca5149d690b473b6a8cd54bf42383b28c4a03083e081f5dc8", func := "propylon/propylonlaw18.PathAll", spec := "pathAll", recurses := true, loops := true, apart := false }
def PathAllSaid : Prop := pathAllRow.holds Try.pinned (OpenSpec.ofChange pathAllSpec)

/-- ITS FALSE NEIGHBOUR: 'it returns false'. Refute it at one input. -/
def pathAllWrong : ChangeSpec := { name := "pathAll", fn := fun _ => fun
  | [d] => { results := [.lit (.bool false)], args := [d] }
  | _ => none }
def PathAllWrongFalsely : Prop := pathAllRow.holds Try.pinned (OpenSpec.ofChange pathAllWrong)

/-- 'propylonlaw18.PathDiffs': WHATEVER THE INPUT: true; the input reads as it did. -/
def pathDiffsSpec : ChangeSpec := { name := "pathDiffs", fn := fun _ => fun
  | [d1, d2] => { results := [.lit (.bool true)], args := [d1, d2] }
  | _ => none }
def pathDiffsRow : OpenClaim := { program := "ytmkgcifcfgfegaa", sum := "5c383cbd380ffafca5149d690b473b6a8cd54bf42383b28c4a03083e081f5dc8", func := "propylon/propylonlaw18.PathDiffs", spec := "pathDiffs", recurses := true, loops := true, apart := false }
def PathDiffsSaid : Prop := pathDiffsRow.holds Try.pinned (OpenSpec.ofChange pathDiffsSpec)

/-- ITS FALSE NEIGHBOUR: 'it returns false'. Refute it at one input. -/
def pathDiffsWrong : ChangeSpec := { name := "pathDiffs", fn := fun _ => fun
  | [d1, d2] => { results := [.lit (.bool false)], args := [d1, d2] }
  | _ => none }
def PathDiffsWrongFalsely : Prop := pathDiffsRow.holds Try.pinned (OpenSpec.ofChange pathDiffsWrong)

/-- 'propylonlaw18.PathOne': WHATEVER THE INPUT: true; the input reads as it did. -/
def pathOneSpec : ChangeSpec := { name := "pathOne", fn := fun _ => fun
  | [d1, d2] => { results := [.lit (.bool true)], args := [d1, d2] }
  | _ => none }
def pathOneRow : OpenClaim := { program := "ytmkgcifcfgfegaa", sum := "5c383cbd380ffafca5149d690b473b6a8cd54bf42383b28c4a03083e081f5dc8", func := "propylon/propylonlaw18.PathOne", spec := "pathOne", recurses := true, loops := true, apart := false }
def PathOneSaid : Prop := pathOneRow.holds Try.pinned (OpenSpec.ofChange pathOneSpec)

/-- ITS FALSE NEIGHBOUR: 'it returns false'. Refute it at one input. -/
def pathOneWrong : ChangeSpec := { name := "pathOne", fn := fun _ => fun
  | [d1, d2] => { results := [.lit (.bool false)], args := [d1, d2] }
  | _ => none }
def PathOneWrongFalsely : Prop := pathOneRow.holds Try.pinned (OpenSpec.ofChange pathOneWrong)

/- THE SECOND FORM. 'bulk': how many values and letters a reading holds, each counted each time it is reached (what is shared counts as often as it is met; a slice's spare places count too). A statement '..UptoSaid' is the law's where the arguments, and the package variables that the reading takes, are together of bulk at most 1048576: NARROWER than '..Said'. Prove '..Said' where nothing that the law and all that it calls make is longer than what came in: it says more and counts as full. Else prove '..UptoSaid'. A law counts once. -/
mutual
def uptoBulk {H : Type} : DataW H → Nat
  | .lit (.string bytes) => bytes.length + 1
  | .lit _ => 1
  | .nil => 1
  | .ptr d => uptoBulk d + 1
  | .slice elems spare => uptoBulkAll elems + uptoBulkAll spare + 1
  | .agg parts => uptoBulkAll parts + 1
  | .iface _ d => uptoBulk d + 1
  | .map entries => uptoBulkEntries entries + 1
  | .held _ => 1
def uptoBulkAll {H : Type} : List (DataW H) → Nat
  | [] => 0
  | d :: r => uptoBulk d + uptoBulkAll r
def uptoBulkEntries {H : Type} : List (Lit × DataW H) → Nat
  | [] => 0
  | x :: r => uptoBulkEntry x + uptoBulkEntries r
def uptoBulkEntry {H : Type} : Lit × DataW H → Nat
  | (.string bytes, d) => bytes.length + uptoBulk d + 1
  | (_, d) => uptoBulk d + 1
 end
def uptoSmall : (H : Type) → List (DataW H) → Bool := fun _ ds => decide (uptoBulkAll ds ≤ 1048576)
def OpenSpec.upto (s : _root_.Go.ChangeSpec) : _root_.Go.OpenSpec := { _root_.Go.OpenSpec.ofChange s with cond := some uptoSmall }

/-- 'propylonlaw18.PathGets', WHERE WHAT IT READS IS OF BULK AT MOST 1048576: true; the input reads as it did. -/
def pathGetsUptoRow : OpenClaim := { program := "ytmkgcifcfgfegaa", sum := "5c383cbd380ffafca5149d690b473b6a8cd54bf42383b28c4a03083e081f5dc8", func := "propylon/propylonlaw18.PathGets", spec := "pathGets", recurses := true, loops := true, apart := false, narrowed := true }
def PathGetsUptoSaid : Prop := pathGetsUptoRow.holds Try.pinned (OpenSpec.upto pathGetsSpec)

/-- 'propylonlaw18.PathAll', WHERE WHAT IT READS IS OF BULK AT MOST 1048576: true; the input reads as it did. -/
def pathAllUptoRow : OpenClaim := { program := "ytmkgcifcfgfegaa", sum := "5c383cbd380ffafca5149d690b473b6a8cd54bf42383b28c4a03083e081f5dc8", func := "propylon/propylonlaw18.PathAll", spec := "pathAll", recurses := true, loops := true, apart := false, narrowed := true }
def PathAllUptoSaid : Prop := pathAllUptoRow.holds Try.pinned (OpenSpec.upto pathAllSpec)

/-- 'propylonlaw18.PathDiffs', WHERE WHAT IT READS IS OF BULK AT MOST 1048576: true; the input reads as it did. -/
def pathDiffsUptoRow : OpenClaim := { program := "ytmkgcifcfgfegaa", sum := "5c383cbd380ffafca5149d690b473b6a8cd54bf42383b28c4a03083e081f5dc8", func := "propylon/propylonlaw18.PathDiffs", spec := "pathDiffs", recurses := true, loops := true, apart := false, narrowed := true }
def PathDiffsUptoSaid : Prop := pathDiffsUptoRow.holds Try.pinned (OpenSpec.upto pathDiffsSpec)

/-- 'propylonlaw18.PathOne', WHERE WHAT IT READS IS OF BULK AT MOST 1048576: true; the input reads as it did. -/
def pathOneUptoRow : OpenClaim := { program := "ytmkgcifcfgfegaa", sum := "5c383cbd380ffafca5149d690b473b6a8cd54bf42383b28c4a03083e081f5dc8", func := "propylon/propylonlaw18.PathOne", spec := "pathOne", recurses := true, loops := true, apart := false, narrowed := true }
def PathOneUptoSaid : Prop := pathOneUptoRow.holds Try.pinned (OpenSpec.upto pathOneSpec)

end Rows
end Go.Proofs.Ytmkgcifcfgfegaa

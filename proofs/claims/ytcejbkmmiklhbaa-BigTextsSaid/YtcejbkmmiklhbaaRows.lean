/-
  No cell of these rows narrows 'for every input' (looked for: loops, veiled, ifaces, maps, wideKeys, modest, calm, conditions, laid).
  DERIVED. THE GIVEN ROWS OF THIS SEAT. 6 by the template 'for every input the law returns true; each argument reads behind the call as it read before'; 0 by the template 'total and deterministic' (their statements: YtcejbkmmiklhbaaTotals.lean).
  GIVEN WITH THE SEED: the statements are not yours to turn. If you find one false, say at which input.
  Laid BY PROGRAM, IN A SANDBOX (cutbox-rows.mjs): the forced cells as the released guide's own fill.sh prints them over the translation b1bfadb74d66b588… (all of the seat's roots in one cut). By AI agents, Wed Nov 11 2026. No macro, syntax, notation, axiom, sorry.
-/
import Derived.Test.YtcejbkmmiklhbaaChecked
import GoSem.Claim
import GoSem.ClaimJoined
import GoSem.ClaimMapViews
import Derived.JoinedTies
import Derived.KernelRfl
namespace Go.Proofs.Ytcejbkmmiklhbaa
/- THE CELL 'sum', in the pinned program and in every row, IS THE sha256 OF THE DUMP (.gsa) THAT YtcejbkmmiklhbaaProg.lean LOADS. Nothing in Lean hashes anything: it is a label: what it is worth is what the hold of that sum in a sandbox is worth. -/
noncomputable def Try.pinned : Pinned := { name := "ytcejbkmmiklhbaa", sum := "b1bfadb74d66b5885d53c353fbe2d77c0a5cc6529c8ee1e6f4b688599caff304", checked := Try.checked }
namespace Rows
def none {H : Type} : Left H := { results := [], args := [] }

/-- 'propylonlaw9.BigSums': WHATEVER THE INPUT: true; the input reads as it did. -/
def bigSumsSpec : ChangeSpec := { name := "bigSums", fn := fun _ => fun
  | [d1, d2] => { results := [.lit (.bool true)], args := [d1, d2] }
  | _ => none }
def bigSumsRow : OpenClaim := { program := "ytcejbkmmiklhbaa", sum := "b1bfadb74d66b5885d53c353fbe2d77c0a5cc6529c8ee1e6f4b688599caff304", func := "propylon/propylonlaw9.BigSums", spec := "bigSums", apart := false }
def BigSumsSaid : Prop := bigSumsRow.holds Try.pinned (OpenSpec.ofChange bigSumsSpec)

/-- ITS FALSE NEIGHBOUR: 'it returns false'. Refute it at one input. -/
def bigSumsWrong : ChangeSpec := { name := "bigSums", fn := fun _ => fun
  | [d1, d2] => { results := [.lit (.bool false)], args := [d1, d2] }
  | _ => none }
def BigSumsWrongFalsely : Prop := bigSumsRow.holds Try.pinned (OpenSpec.ofChange bigSumsWrong)

/-- 'propylonlaw9.BigMuls': WHATEVER THE INPUT: true; the input reads as it did. -/
def bigMulsSpec : ChangeSpec := { name := "bigMuls", fn := fun _ => fun
  | [d1, d2] => { results := [.lit (.bool true)], args := [d1, d2] }
  | _ => none }
def bigMulsRow : OpenClaim := { program := "ytcejbkmmiklhbaa", sum := "b1bfadb74d66b5885d53c353fbe2d77c0a5cc6529c8ee1e6f4b688599caff304", func := "propylon/propylonlaw9.BigMuls", spec := "bigMuls", apart := false }
def BigMulsSaid : Prop := bigMulsRow.holds Try.pinned (OpenSpec.ofChange bigMulsSpec)

/-- ITS FALSE NEIGHBOUR: 'it returns false'. Refute it at one input. -/
def bigMulsWrong : ChangeSpec := { name := "bigMuls", fn := fun _ => fun
  | [d1, d2] => { results := [.lit (.bool false)], args := [d1, d2] }
  | _ => none }
def BigMulsWrongFalsely : Prop := bigMulsRow.holds Try.pinned (OpenSpec.ofChange bigMulsWrong)

/-- 'propylonlaw9.BigDivs': WHATEVER THE INPUT: true; the input reads as it did. -/
def bigDivsSpec : ChangeSpec := { name := "bigDivs", fn := fun _ => fun
  | [d1, d2] => { results := [.lit (.bool true)], args := [d1, d2] }
  | _ => none }
def bigDivsRow : OpenClaim := { program := "ytcejbkmmiklhbaa", sum := "b1bfadb74d66b5885d53c353fbe2d77c0a5cc6529c8ee1e6f4b688599caff304", func := "propylon/propylonlaw9.BigDivs", spec := "bigDivs", apart := false }
def BigDivsSaid : Prop := bigDivsRow.holds Try.pinned (OpenSpec.ofChange bigDivsSpec)

/-- ITS FALSE NEIGHBOUR: 'it returns false'. Refute it at one input. -/
def bigDivsWrong : ChangeSpec := { name := "bigDivs", fn := fun _ => fun
  | [d1, d2] => { results := [.lit (.bool false)], args := [d1, d2] }
  | _ => none }
def BigDivsWrongFalsely : Prop := bigDivsRow.holds Try.pinned (OpenSpec.ofChange bigDivsWrong)

/-- 'propylonlaw9.BigShifts': WHATEVER THE INPUT: true; the input reads as it did. -/
def bigShiftsSpec : ChangeSpec := { name := "bigShifts", fn := fun _ => fun
  | [d1, d2, d3] => { results := [.lit (.bool true)], args := [d1, d2, d3] }
  | _ => none }
def bigShiftsRow : OpenClaim := { program := "ytcejbkmmiklhbaa", sum := "b1bfadb74d66b5885d53c353fbe2d77c0a5cc6529c8ee1e6f4b688599caff304", func := "propylon/propylonlaw9.BigShifts", spec := "bigShifts", apart := false }
def BigShiftsSaid : Prop := bigShiftsRow.holds Try.pinned (OpenSpec.ofChange bigShiftsSpec)

/-- ITS FALSE NEIGHBOUR: 'it returns false'. Refute it at one input. -/
def bigShiftsWrong : ChangeSpec := { name := "bigShifts", fn := fun _ => fun
  | [d1, d2, d3] => { results := [.lit (.bool false)], args := [d1, d2, d3] }
  | _ => none }
def BigShiftsWrongFalsely : Prop := bigShiftsRow.holds Try.pinned (OpenSpec.ofChange bigShiftsWrong)

/-- 'propylonlaw9.BigTexts': WHATEVER THE INPUT: true; the input reads as it did. -/
def bigTextsSpec : ChangeSpec := { name := "bigTexts", fn := fun _ => fun
  | [d1, d2, d3] => { results := [.lit (.bool true)], args := [d1, d2, d3] }
  | _ => none }
def bigTextsRow : OpenClaim := { program := "ytcejbkmmiklhbaa", sum := "b1bfadb74d66b5885d53c353fbe2d77c0a5cc6529c8ee1e6f4b688599caff304", func := "propylon/propylonlaw9.BigTexts", spec := "bigTexts", apart := false }
def BigTextsSaid : Prop := bigTextsRow.holds Try.pinned (OpenSpec.ofChange bigTextsSpec)

/-- ITS FALSE NEIGHBOUR: 'it returns false'. Refute it at one input. -/
def bigTextsWrong : ChangeSpec := { name := "bigTexts", fn := fun _ => fun
  | [d1, d2, d3] => { results := [.lit (.bool false)], args := [d1, d2, d3] }
  | _ => none }
def BigTextsWrongFalsely : Prop := bigTextsRow.holds Try.pinned (OpenSpec.ofChange bigTextsWrong)

/-- 'propylonlaw9.BigLaws': WHATEVER THE INPUT: true; the input reads as it did. -/
def bigLawsSpec : ChangeSpec := { name := "bigLaws", fn := fun _ => fun
  | [d1, d2, d3] => { results := [.lit (.bool true)], args := [d1, d2, d3] }
  | _ => none }
def bigLawsRow : OpenClaim := { program := "ytcejbkmmiklhbaa", sum := "b1bfadb74d66b5885d53c353fbe2d77c0a5cc6529c8ee1e6f4b688599caff304", func := "propylon/propylonlaw9.BigLaws", spec := "bigLaws", apart := false }
def BigLawsSaid : Prop := bigLawsRow.holds Try.pinned (OpenSpec.ofChange bigLawsSpec)

/-- ITS FALSE NEIGHBOUR: 'it returns false'. Refute it at one input. -/
def bigLawsWrong : ChangeSpec := { name := "bigLaws", fn := fun _ => fun
  | [d1, d2, d3] => { results := [.lit (.bool false)], args := [d1, d2, d3] }
  | _ => none }
def BigLawsWrongFalsely : Prop := bigLawsRow.holds Try.pinned (OpenSpec.ofChange bigLawsWrong)

/- THE SECOND FORM. 'bulk': how many values and letters a reading holds, each counted each time it is reached (what is shared counts as often as it is met; a slice's spare places count too). A statement '..UptoSaid' is the law's where the arguments, and the package variables that the reading takes, are together of bulk at most 1048576: NARROWER than '..Said'. Prove '..Said' where nothing that the law and all that it calls make is longer than what came in: it says more and counts as full. Else prove '..UptoSaid'. A law counts once. -/
mutual
def uptoBulk {H : Type} : DataW H → Nat
  | .lit (.string bytes) => bytes.length + 1
  | .lit _ => 1
  | .nil => 1
  | .ptr d => uptoBulk d + 1
  | .slice elems spare => uptoBulkAll elems + uptoBulkAll spare + 1
  | .agg parts => uptoBulkAll parts + 1
  | .iface _ d => uptoBulk d + 1
  | .map entries => uptoBulkEntries entries + 1
  | .held _ => 1
def uptoBulkAll {H : Type} : List (DataW H) → Nat
  | [] => 0
  | d :: r => uptoBulk d + uptoBulkAll r
def uptoBulkEntries {H : Type} : List (Lit × DataW H) → Nat
  | [] => 0
  | x :: r => uptoBulkEntry x + uptoBulkEntries r
def uptoBulkEntry {H : Type} : Lit × DataW H → Nat
  | (.string bytes, d) => bytes.length + uptoBulk d + 1
  | (_, d) => uptoBulk d + 1
 end
def uptoSmall : (H : Type) → List (DataW H) → Bool := fun _ ds => decide (uptoBulkAll ds ≤ 1048576)
def OpenSpec.upto (s : _root_.Go.ChangeSpec) : _root_.Go.OpenSpec := { _root_.Go.OpenSpec.ofChange s with cond := some uptoSmall }

/-- 'propylonlaw9.BigSums', WHERE WHAT IT READS IS OF BULK AT MOST 1048576: true; the input reads as it did. -/
def bigSumsUptoRow : OpenClaim := { program := "ytcejbkmmiklhbaa", sum := "b1bfadb74d66b5885d53c353fbe2d77c0a5cc6529c8ee1e6f4b688599caff304", func := "propylon/propylonlaw9.BigSums", spec := "bigSums", apart := false, narrowed := true }
def BigSumsUptoSaid : Prop := bigSumsUptoRow.holds Try.pinned (OpenSpec.upto bigSumsSpec)

/-- 'propylonlaw9.BigMuls', WHERE WHAT IT READS IS OF BULK AT MOST 1048576: true; the input reads as it did. -/
def bigMulsUptoRow : OpenClaim := { program := "ytcejbkmmiklhbaa", sum := "b1bfadb74d66b5885d53c353fbe2d77c0a5cc6529c8ee1e6f4b688599caff304", func := "propylon/propylonlaw9.BigMuls", spec := "bigMuls", apart := false, narrowed := true }
def BigMulsUptoSaid : Prop := bigMulsUptoRow.holds Try.pinned (OpenSpec.upto bigMulsSpec)

/-- 'propylonlaw9.BigDivs', WHERE WHAT IT READS IS OF BULK AT MOST 1048576: true; the input reads as it did. -/
def bigDivsUptoRow : OpenClaim := { program := "ytcejbkmmiklhbaa", sum := "b1bfadb74d66b5885d53c353fbe2d77c0a5cc6529c8ee1e6f4b688599caff304", func := "propylon/propylonlaw9.BigDivs", spec := "bigDivs", apart := false, narrowed := true }
def BigDivsUptoSaid : Prop := bigDivsUptoRow.holds Try.pinned (OpenSpec.upto bigDivsSpec)

/-- 'propylonlaw9.BigShifts', WHERE WHAT IT READS IS OF BULK AT MOST 1048576: true; the input reads as it did. -/
def bigShiftsUptoRow : OpenClaim := { program := "ytcejbkmmiklhbaa", sum := "b1bfadb74d66b5885d53c353fbe2d77c0a5cc6529c8ee1e6f4b688599caff304", func := "propylon/propylonlaw9.BigShifts", spec := "bigShifts", apart := false, narrowed := true }
def BigShiftsUptoSaid : Prop := bigShiftsUptoRow.holds Try.pinned (OpenSpec.upto bigShiftsSpec)

/-- 'propylonlaw9.BigTexts', WHERE WHAT IT READS IS OF BULK AT MOST 1048576: true; the input reads as it did. -/
def bigTextsUptoRow : OpenClaim := { program := "ytcejbkmmiklhbaa", sum := "b1bfadb74d66b5885d53c353fbe2d77c0a5cc6529c8ee1e6f4b688599caff304", func := "propylon/propylonlaw9.BigTexts", spec := "bigTexts", apart := false, narrowed := true }
def BigTextsUptoSaid : Prop := bigTextsUptoRow.holds Try.pinned (OpenSpec.upto bigTextsSpec)

/-- 'propylonlaw9.BigLaws', WHERE WHAT IT READS IS OF BULK AT MOST 1048576: true; the input reads as it did. -/
def bigLawsUptoRow : OpenClaim := { program := "ytcejbkmmiklhbaa", sum := "b1bfadb74d66b5885d53c353fbe2d77c0a5cc6529c8ee1e6f4b688599caff304", func := "propylon/propylonlaw9.BigLaws", spec := "bigLaws", apart := false, narrowed := true }
def BigLawsUptoSaid : Prop := bigLawsUptoRow.holds Try.pinned (OpenSpec.upto bigLawsSpec)

end Rows
end Go.Proofs.Ytcejbkmmiklhbaa

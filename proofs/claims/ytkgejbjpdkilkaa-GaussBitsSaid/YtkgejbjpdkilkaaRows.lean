/-
  No cell of these rows narrows 'for every input' (looked for: loops, veiled, ifaces, maps, wideKeys, modest, calm, conditions, laid).
  DERIVED. THE GIVEN ROWS OF THIS SEAT. 6 by the template 'for every input the law returns true; each argument reads behind the call as it read before'; 0 by the template 'total and deterministic' (their statements: YtkgejbjpdkilkaaTotals.lean).
  GIVEN WITH THE SEED: the statements are not yours to turn. If you find one false, say at which input.
  Laid BY PROGRAM, IN A SANDBOX (cutbox-rows.mjs): the forced cells as the released guide's own fill.sh prints them over the translation 8789a1e136f73aac… (all of the seat's roots in one cut). By AI agents, Wed Nov 11 2026. No macro, syntax, notation, axiom, sorry.
-/
import Derived.Test.YtkgejbjpdkilkaaChecked
import GoSem.Claim
import GoSem.ClaimJoined
import GoSem.ClaimMapViews
import Derived.JoinedTies
import Derived.KernelRfl
namespace Go.Proofs.Ytkgejbjpdkilkaa
/- THE CELL 'sum', in the pinned program and in every row, IS THE sha256 OF THE DUMP (.gsa) THAT YtkgejbjpdkilkaaProg.lean LOADS. Nothing in Lean hashes anything: it is a label: what it is worth is what the hold of that sum in a sandbox is worth. -/
noncomputable def Try.pinned : Pinned := { name := "ytkgejbjpdkilkaa", sum := "8789a1e136f73aac07d3afcaa894d8e426e637b74d92e01b7143fbb568c2d6f3", checked := Try.checked }
namespace Rows
def none {H : Type} : Left H := { results := [], args := [] }

/-- 'propylonlaw7.GaussParts': WHATEVER THE INPUT: true; the input reads as it did. -/
def gaussPartsSpec : ChangeSpec := { name := "gaussParts", fn := fun _ => fun
  | [d1, d2] => { results := [.lit (.bool true)], args := [d1, d2] }
  | _ => none }
def gaussPartsRow : OpenClaim := { program := "ytkgejbjpdkilkaa", sum := "8789a1e136f73aac07d3afcaa894d8e426e637b74d92e01b7143fbb568c2d6f3", func := "propylon/propylonlaw7.GaussParts", spec := "gaussParts", apart := false }
def GaussPartsSaid : Prop := gaussPartsRow.holds Try.pinned (OpenSpec.ofChange gaussPartsSpec)

/-- ITS FALSE NEIGHBOUR: 'it returns false'. Refute it at one input. -/
def gaussPartsWrong : ChangeSpec := { name := "gaussParts", fn := fun _ => fun
  | [d1, d2] => { results := [.lit (.bool false)], args := [d1, d2] }
  | _ => none }
def GaussPartsWrongFalsely : Prop := gaussPartsRow.holds Try.pinned (OpenSpec.ofChange gaussPartsWrong)

/-- 'propylonlaw7.GaussBits': WHATEVER THE INPUT: true; the input reads as it did. -/
def gaussBitsSpec : ChangeSpec := { name := "gaussBits", fn := fun _ => fun
  | [d1, d2] => { results := [.lit (.bool true)], args := [d1, d2] }
  | _ => none }
def gaussBitsRow : OpenClaim := { program := "ytkgejbjpdkilkaa", sum := "8789a1e136f73aac07d3afcaa894d8e426e637b74d92e01b7143fbb568c2d6f3", func := "propylon/propylonlaw7.GaussBits", spec := "gaussBits", inPlace := ["math.Float64frombits"], apart := false }
def GaussBitsSaid : Prop := gaussBitsRow.holds Try.pinned (OpenSpec.ofChange gaussBitsSpec)

/-- ITS FALSE NEIGHBOUR: 'it returns false'. Refute it at one input. -/
def gaussBitsWrong : ChangeSpec := { name := "gaussBits", fn := fun _ => fun
  | [d1, d2] => { results := [.lit (.bool false)], args := [d1, d2] }
  | _ => none }
def GaussBitsWrongFalsely : Prop := gaussBitsRow.holds Try.pinned (OpenSpec.ofChange gaussBitsWrong)

/-- 'propylonlaw7.GaussTurns': WHATEVER THE INPUT: true; the input reads as it did. -/
def gaussTurnsSpec : ChangeSpec := { name := "gaussTurns", fn := fun _ => fun
  | [d1, d2, d3] => { results := [.lit (.bool true)], args := [d1, d2, d3] }
  | _ => none }
def gaussTurnsRow : OpenClaim := { program := "ytkgejbjpdkilkaa", sum := "8789a1e136f73aac07d3afcaa894d8e426e637b74d92e01b7143fbb568c2d6f3", func := "propylon/propylonlaw7.GaussTurns", spec := "gaussTurns", apart := false }
def GaussTurnsSaid : Prop := gaussTurnsRow.holds Try.pinned (OpenSpec.ofChange gaussTurnsSpec)

/-- ITS FALSE NEIGHBOUR: 'it returns false'. Refute it at one input. -/
def gaussTurnsWrong : ChangeSpec := { name := "gaussTurns", fn := fun _ => fun
  | [d1, d2, d3] => { results := [.lit (.bool false)], args := [d1, d2, d3] }
  | _ => none }
def GaussTurnsWrongFalsely : Prop := gaussTurnsRow.holds Try.pinned (OpenSpec.ofChange gaussTurnsWrong)

/-- 'propylonlaw7.GaussTimes': WHATEVER THE INPUT: true; the input reads as it did. -/
def gaussTimesSpec : ChangeSpec := { name := "gaussTimes", fn := fun _ => fun
  | [d] => { results := [.lit (.bool true)], args := [d] }
  | _ => none }
def gaussTimesRow : OpenClaim := { program := "ytkgejbjpdkilkaa", sum := "8789a1e136f73aac07d3afcaa894d8e426e637b74d92e01b7143fbb568c2d6f3", func := "propylon/propylonlaw7.GaussTimes", spec := "gaussTimes", apart := false }
def GaussTimesSaid : Prop := gaussTimesRow.holds Try.pinned (OpenSpec.ofChange gaussTimesSpec)

/-- ITS FALSE NEIGHBOUR: 'it returns false'. Refute it at one input. -/
def gaussTimesWrong : ChangeSpec := { name := "gaussTimes", fn := fun _ => fun
  | [d] => { results := [.lit (.bool false)], args := [d] }
  | _ => none }
def GaussTimesWrongFalsely : Prop := gaussTimesRow.holds Try.pinned (OpenSpec.ofChange gaussTimesWrong)

/-- 'propylonlaw7.GaussQuos': WHATEVER THE INPUT: true; the input reads as it did. -/
def gaussQuosSpec : ChangeSpec := { name := "gaussQuos", fn := fun _ => fun
  | [d] => { results := [.lit (.bool true)], args := [d] }
  | _ => none }
def gaussQuosRow : OpenClaim := { program := "ytkgejbjpdkilkaa", sum := "8789a1e136f73aac07d3afcaa894d8e426e637b74d92e01b7143fbb568c2d6f3", func := "propylon/propylonlaw7.GaussQuos", spec := "gaussQuos", apart := false }
def GaussQuosSaid : Prop := gaussQuosRow.holds Try.pinned (OpenSpec.ofChange gaussQuosSpec)

/-- ITS FALSE NEIGHBOUR: 'it returns false'. Refute it at one input. -/
def gaussQuosWrong : ChangeSpec := { name := "gaussQuos", fn := fun _ => fun
  | [d] => { results := [.lit (.bool false)], args := [d] }
  | _ => none }
def GaussQuosWrongFalsely : Prop := gaussQuosRow.holds Try.pinned (OpenSpec.ofChange gaussQuosWrong)

/-- 'propylonlaw7.GaussNorms': WHATEVER THE INPUT: true; the input reads as it did. -/
def gaussNormsSpec : ChangeSpec := { name := "gaussNorms", fn := fun _ => fun
  | [d] => { results := [.lit (.bool true)], args := [d] }
  | _ => none }
def gaussNormsRow : OpenClaim := { program := "ytkgejbjpdkilkaa", sum := "8789a1e136f73aac07d3afcaa894d8e426e637b74d92e01b7143fbb568c2d6f3", func := "propylon/propylonlaw7.GaussNorms", spec := "gaussNorms", apart := false }
def GaussNormsSaid : Prop := gaussNormsRow.holds Try.pinned (OpenSpec.ofChange gaussNormsSpec)

/-- ITS FALSE NEIGHBOUR: 'it returns false'. Refute it at one input. -/
def gaussNormsWrong : ChangeSpec := { name := "gaussNorms", fn := fun _ => fun
  | [d] => { results := [.lit (.bool false)], args := [d] }
  | _ => none }
def GaussNormsWrongFalsely : Prop := gaussNormsRow.holds Try.pinned (OpenSpec.ofChange gaussNormsWrong)

/- THE SECOND FORM. 'bulk': how many values and letters a reading holds, each counted each time it is reached (what is shared counts as often as it is met; a slice's spare places count too). A statement '..UptoSaid' is the law's where the arguments, and the package variables that the reading takes, are together of bulk at most 1048576: NARROWER than '..Said'. Prove '..Said' where nothing that the law and all that it calls make is longer than what came in: it says more and counts as full. Else prove '..UptoSaid'. A law counts once. -/
mutual
def uptoBulk {H : Type} : DataW H → Nat
  | .lit (.string bytes) => bytes.length + 1
  | .lit _ => 1
  | .nil => 1
  | .ptr d => uptoBulk d + 1
  | .slice elems spare => uptoBulkAll elems + uptoBulkAll spare + 1
  | .agg parts => uptoBulkAll parts + 1
  | .iface _ d => uptoBulk d + 1
  | .map entries => uptoBulkEntries entries + 1
  | .held _ => 1
def uptoBulkAll {H : Type} : List (DataW H) → Nat
  | [] => 0
  | d :: r => uptoBulk d + uptoBulkAll r
def uptoBulkEntries {H : Type} : List (Lit × DataW H) → Nat
  | [] => 0
  | x :: r => uptoBulkEntry x + uptoBulkEntries r
def uptoBulkEntry {H : Type} : Lit × DataW H → Nat
  | (.string bytes, d) => bytes.length + uptoBulk d + 1
  | (_, d) => uptoBulk d + 1
 end
def uptoSmall : (H : Type) → List (DataW H) → Bool := fun _ ds => decide (uptoBulkAll ds ≤ 1048576)
def OpenSpec.upto (s : _root_.Go.ChangeSpec) : _root_.Go.OpenSpec := { _root_.Go.OpenSpec.ofChange s with cond := some uptoSmall }

/-- 'propylonlaw7.GaussParts', WHERE WHAT IT READS IS OF BULK AT MOST 1048576: true; the input reads as it did. -/
def gaussPartsUptoRow : OpenClaim := { program := "ytkgejbjpdkilkaa", sum := "8789a1e136f73aac07d3afcaa894d8e426e637b74d92e01b7143fbb568c2d6f3", func := "propylon/propylonlaw7.GaussParts", spec := "gaussParts", apart := false, narrowed := true }
def GaussPartsUptoSaid : Prop := gaussPartsUptoRow.holds Try.pinned (OpenSpec.upto gaussPartsSpec)

/-- 'propylonlaw7.GaussBits', WHERE WHAT IT READS IS OF BULK AT MOST 1048576: true; the input reads as it did. -/
def gaussBitsUptoRow : OpenClaim := { program := "ytkgejbjpdkilkaa", sum := "8789a1e136f73aac07d3afcaa894d8e426e637b74d92e01b7143fbb568c2d6f3", func := "propylon/propylonlaw7.GaussBits", spec := "gaussBits", inPlace := ["math.Float64frombits"], apart := false, narrowed := true }
def GaussBitsUptoSaid : Prop := gaussBitsUptoRow.holds Try.pinned (OpenSpec.upto gaussBitsSpec)

/-- 'propylonlaw7.GaussTurns', WHERE WHAT IT READS IS OF BULK AT MOST 1048576: true; the input reads as it did. -/
def gaussTurnsUptoRow : OpenClaim := { program := "ytkgejbjpdkilkaa", sum := "8789a1e136f73aac07d3afcaa894d8e426e637b74d92e01b7143fbb568c2d6f3", func := "propylon/propylonlaw7.GaussTurns", spec := "gaussTurns", apart := false, narrowed := true }
def GaussTurnsUptoSaid : Prop := gaussTurnsUptoRow.holds Try.pinned (OpenSpec.upto gaussTurnsSpec)

/-- 'propylonlaw7.GaussTimes', WHERE WHAT IT READS IS OF BULK AT MOST 1048576: true; the input reads as it did. -/
def gaussTimesUptoRow : OpenClaim := { program := "ytkgejbjpdkilkaa", sum := "8789a1e136f73aac07d3afcaa894d8e426e637b74d92e01b7143fbb568c2d6f3", func := "propylon/propylonlaw7.GaussTimes", spec := "gaussTimes", apart := false, narrowed := true }
def GaussTimesUptoSaid : Prop := gaussTimesUptoRow.holds Try.pinned (OpenSpec.upto gaussTimesSpec)

/-- 'propylonlaw7.GaussQuos', WHERE WHAT IT READS IS OF BULK AT MOST 1048576: true; the input reads as it did. -/
def gaussQuosUptoRow : OpenClaim := { program := "ytkgejbjpdkilkaa", sum := "8789a1e136f73aac07d3afcaa894d8e426e637b74d92e01b7143fbb568c2d6f3", func := "propylon/propylonlaw7.GaussQuos", spec := "gaussQuos", apart := false, narrowed := true }
def GaussQuosUptoSaid : Prop := gaussQuosUptoRow.holds Try.pinned (OpenSpec.upto gaussQuosSpec)

/-- 'propylonlaw7.GaussNorms', WHERE WHAT IT READS IS OF BULK AT MOST 1048576: true; the input reads as it did. -/
def gaussNormsUptoRow : OpenClaim := { program := "ytkgejbjpdkilkaa", sum := "8789a1e136f73aac07d3afcaa894d8e426e637b74d92e01b7143fbb568c2d6f3", func := "propylon/propylonlaw7.GaussNorms", spec := "gaussNorms", apart := false, narrowed := true }
def GaussNormsUptoSaid : Prop := gaussNormsUptoRow.holds Try.pinned (OpenSpec.upto gaussNormsSpec)

end Rows
end Go.Proofs.Ytkgejbjpdkilkaa

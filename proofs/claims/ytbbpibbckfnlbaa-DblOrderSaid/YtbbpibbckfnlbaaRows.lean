/-
  No cell of these rows narrows 'for every input' (looked for: loops, veiled, ifaces, maps, wideKeys, modest, calm, conditions, laid).
  DERIVED. THE GIVEN ROWS OF THIS SEAT. 3 by the template 'for every input the law returns true; each argument reads behind the call as it read before'; 0 by the template 'total and deterministic' (their statements: YtbbpibbckfnlbaaTotals.lean).
  GIVEN WITH THE SEED: the statements are not yours to turn. If you find one false, say at which input.
  Laid BY PROGRAM, IN A SANDBOX (cutbox-rows.mjs): the forced cells as the released guide's own fill.sh prints them over the translation e86f2f2afea664ff… (all of the seat's roots in one cut). By AI agents, Wed Nov 11 2026. No macro, syntax, notation, axiom, sorry.
-/
import Derived.Test.YtbbpibbckfnlbaaChecked
import GoSem.Claim
import GoSem.ClaimJoined
import GoSem.ClaimMapViews
import Derived.JoinedTies
import Derived.KernelRfl
namespace Go.Proofs.Ytbbpibbckfnlbaa
/- THE CELL 'sum', in the pinned program and in every row, IS THE sha256 OF THE DUMP (.gsa) THAT YtbbpibbckfnlbaaProg.lean LOADS. Nothing in Lean hashes anything: it is a label: what it is worth is what the hold of that sum in a sandbox is worth. -/
noncomputable def Try.pinned : Pinned := { name := "ytbbpibbckfnlbaa", sum := "e86f2f2afea664ff1171c02b8eec66f5da933a19b032571a564096a96b6dcc02", checked := Try.checked }
namespace Rows
def none {H : Type} : Left H := { results := [], args := [] }

/-- 'propylonlaw11.DblSplits': WHATEVER THE INPUT: true; the input reads as it did. -/
def dblSplitsSpec : ChangeSpec := { name := "dblSplits", fn := fun _ => fun
  | [d] => { results := [.lit (.bool true)], args := [d] }
  | _ => none }
def dblSplitsRow : OpenClaim := { program := "ytbbpibbckfnlbaa", sum := "e86f2f2afea664ff1171c02b8eec66f5da933a19b032571a564096a96b6dcc02", func := "propylon/propylonlaw11.DblSplits", spec := "dblSplits", apart := false }
def DblSplitsSaid : Prop := dblSplitsRow.holds Try.pinned (OpenSpec.ofChange dblSplitsSpec)

/-- ITS FALSE NEIGHBOUR: 'it returns false'. Refute it at one input. -/
def dblSplitsWrong : ChangeSpec := { name := "dblSplits", fn := fun _ => fun
  | [d] => { results := [.lit (.bool false)], args := [d] }
  | _ => none }
def DblSplitsWrongFalsely : Prop := dblSplitsRow.holds Try.pinned (OpenSpec.ofChange dblSplitsWrong)

/-- 'propylonlaw11.DblCmps': WHATEVER THE INPUT: true; the input reads as it did. -/
def dblCmpsSpec : ChangeSpec := { name := "dblCmps", fn := fun _ => fun
  | [d1, d2] => { results := [.lit (.bool true)], args := [d1, d2] }
  | _ => none }
def dblCmpsRow : OpenClaim := { program := "ytbbpibbckfnlbaa", sum := "e86f2f2afea664ff1171c02b8eec66f5da933a19b032571a564096a96b6dcc02", func := "propylon/propylonlaw11.DblCmps", spec := "dblCmps", apart := false }
def DblCmpsSaid : Prop := dblCmpsRow.holds Try.pinned (OpenSpec.ofChange dblCmpsSpec)

/-- ITS FALSE NEIGHBOUR: 'it returns false'. Refute it at one input. -/
def dblCmpsWrong : ChangeSpec := { name := "dblCmps", fn := fun _ => fun
  | [d1, d2] => { results := [.lit (.bool false)], args := [d1, d2] }
  | _ => none }
def DblCmpsWrongFalsely : Prop := dblCmpsRow.holds Try.pinned (OpenSpec.ofChange dblCmpsWrong)

/-- 'propylonlaw11.DblOrder': WHATEVER THE INPUT: true; the input reads as it did. -/
def dblOrderSpec : ChangeSpec := { name := "dblOrder", fn := fun _ => fun
  | [d1, d2, d3] => { results := [.lit (.bool true)], args := [d1, d2, d3] }
  | _ => none }
def dblOrderRow : OpenClaim := { program := "ytbbpibbckfnlbaa", sum := "e86f2f2afea664ff1171c02b8eec66f5da933a19b032571a564096a96b6dcc02", func := "propylon/propylonlaw11.DblOrder", spec := "dblOrder", apart := false }
def DblOrderSaid : Prop := dblOrderRow.holds Try.pinned (OpenSpec.ofChange dblOrderSpec)

/-- ITS FALSE NEIGHBOUR: 'it returns false'. Refute it at one input. -/
def dblOrderWrong : ChangeSpec := { name := "dblOrder", fn := fun _ => fun
  | [d1, d2, d3] => { results := [.lit (.bool false)], args := [d1, d2, d3] }
  | _ => none }
def DblOrderWrongFalsely : Prop := dblOrderRow.holds Try.pinned (OpenSpec.ofChange dblOrderWrong)

/- THE SECOND FORM. 'bulk': how many values and letters a reading holds, each counted each time it is reached (what is shared counts as often as it is met; a slice's spare places count too). A statement '..UptoSaid' is the law's where the arguments, and the package variables that the reading takes, are together of bulk at most 1048576: NARROWER than '..Said'. Prove '..Said' where nothing that the law and all that it calls make is longer than what came in: it says more and counts as full. Else prove '..UptoSaid'. A law counts once. -/
mutual
def uptoBulk {H : Type} : DataW H → Nat
  | .lit (.string bytes) => bytes.length + 1
  | .lit _ => 1
  | .nil => 1
  | .ptr d => uptoBulk d + 1
  | .slice elems spare => uptoBulkAll elems + uptoBulkAll spare + 1
  | .agg parts => uptoBulkAll parts + 1
  | .iface _ d => uptoBulk d + 1
  | .map entries => uptoBulkEntries entries + 1
  | .held _ => 1
def uptoBulkAll {H : Type} : List (DataW H) → Nat
  | [] => 0
  | d :: r => uptoBulk d + uptoBulkAll r
def uptoBulkEntries {H : Type} : List (Lit × DataW H) → Nat
  | [] => 0
  | x :: r => uptoBulkEntry x + uptoBulkEntries r
def uptoBulkEntry {H : Type} : Lit × DataW H → Nat
  | (.string bytes, d) => bytes.length + uptoBulk d + 1
  | (_, d) => uptoBulk d + 1
 end
def uptoSmall : (H : Type) → List (DataW H) → Bool := fun _ ds => decide (uptoBulkAll ds ≤ 1048576)
def OpenSpec.upto (s : _root_.Go.ChangeSpec) : _root_.Go.OpenSpec := { _root_.Go.OpenSpec.ofChange s with cond := some uptoSmall }

/-- 'propylonlaw11.DblSplits', WHERE WHAT IT READS IS OF BULK AT MOST 1048576: true; the input reads as it did. -/
def dblSplitsUptoRow : OpenClaim := { program := "ytbbpibbckfnlbaa", sum := "e86f2f2afea664ff1171c02b8eec66f5da933a19b032571a564096a96b6dcc02", func := "propylon/propylonlaw11.DblSplits", spec := "dblSplits", apart := false, narrowed := true }
def DblSplitsUptoSaid : Prop := dblSplitsUptoRow.holds Try.pinned (OpenSpec.upto dblSplitsSpec)

/-- 'propylonlaw11.DblCmps', WHERE WHAT IT READS IS OF BULK AT MOST 1048576: true; the input reads as it did. -/
def dblCmpsUptoRow : OpenClaim := { program := "ytbbpibbckfnlbaa", sum := "e86f2f2afea664ff1171c02b8eec66f5da933a19b032571a564096a96b6dcc02", func := "propylon/propylonlaw11.DblCmps", spec := "dblCmps", apart := false, narrowed := true }
def DblCmpsUptoSaid : Prop := dblCmpsUptoRow.holds Try.pinned (OpenSpec.upto dblCmpsSpec)

/-- 'propylonlaw11.DblOrder', WHERE WHAT IT READS IS OF BULK AT MOST 1048576: true; the input reads as it did. -/
def dblOrderUptoRow : OpenClaim := { program := "ytbbpibbckfnlbaa", sum := "e86f2f2afea664ff1171c02b8eec66f5da933a19b032571a564096a96b6dcc02", func := "propylon/propylonlaw11.DblOrder", spec := "dblOrder", apart := false, narrowed := true }
def DblOrderUptoSaid : Prop := dblOrderUptoRow.holds Try.pinned (OpenSpec.upto dblOrderSpec)

end Rows
end Go.Proofs.Ytbbpibbckfnlbaa

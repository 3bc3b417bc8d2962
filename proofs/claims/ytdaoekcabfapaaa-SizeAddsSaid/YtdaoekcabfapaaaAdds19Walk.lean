/-
  The law SizeAdds (chapter 19) at any tree and any Field; no condition but that its Name is not too long for a Name.
-/
import Derived.Test.YtdaoekcabfapaaaAddsA19
import Derived.Test.YtdaoekcabfapaaaAddsB19
import Derived.Test.YtdaoekcabfapaaaAddsC19
import Derived.Test.YtdaoekcabfapaaaAddsN19
namespace Go.Proofs.Ytdaoekcabfapaaa
open Go.RowKit
theorem adds19 (t : Tree) (cs : List Value) (nm : List UInt8) (tf : Tree) (f0 f1 f2 f3 f4 f5 f6 f7 f8 : Value) (w : World) (hT : TreeAt w (· < w.heap.size) t cs) (hN : nm.length ≤ maxLen) (hF : TreeAt w (· < w.heap.size) tf [f0, f1, f2, f3, f4, f5, f6, f7, f8]) :
    Calls Try.prog 5 #[.agg cs.toArray, .agg #[.string ⟨nm.toArray⟩, f0, f1, f2, f3, f4, f5, f6, f7, f8]] w fun e w' => e = .returned (.bool true) ∧ Below w.heap.size w w' := by
  by_cases q : t.own.kind = 3 ∨ t.own.kind = 4 ∨ t.own.kind = 15
  · rcases q with q | q | q
    · exact adds19A t cs nm tf f0 f1 f2 f3 f4 f5 f6 f7 f8 w q hT hN hF
    · exact adds19B t cs nm tf f0 f1 f2 f3 f4 f5 f6 f7 f8 w q hT hN hF
    · exact adds19C t cs nm tf f0 f1 f2 f3 f4 f5 f6 f7 f8 w q hT hN hF
  · exact adds19N t cs nm tf f0 f1 f2 f3 f4 f5 f6 f7 f8 w q hT hN hF
end Go.Proofs.Ytdaoekcabfapaaa

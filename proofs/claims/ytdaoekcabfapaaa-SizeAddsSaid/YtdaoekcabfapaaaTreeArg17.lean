/-
  A document that came in, as a walk is told of it: a tree; no condition beyond what the lemma asks.
-/
import Derived.Test.YtdaoekcabfapaaaTreeAt
import Derived.Deep.Fields
import Derived.Deep.Slices
import Derived.ChangeSlices
namespace Go.Proofs.Ytdaoekcabfapaaa
open Go.ChangeShapes Go.WideShapes Go.ChangeAt Go.RowKit Go.Deep
/-- What a document is told by. -/
theorem value_of {H : Type} {enc : TypeId × Value → H} {w : World} {base : Nat} {held : Bool} {r : Reach} {b0 : Nat} {v : Value} {d : DataW H} {p : List MemPlace}
    (hv : Value.okWide Try.prog w r b0 26 v) (h : DataW.Trod enc Try.prog w base (fun _ => true) held 26 v d p) :
    ∃ (t : Tree) (cs : List Value), v = .agg cs.toArray ∧ TreeAt w (· < w.heap.size) t cs := by
  obtain ⟨cs, rfl, _⟩ := okWide_struct Try.underlying26 hv
  obtain ⟨fuel, hf⟩ := h
  obtain ⟨t, ht⟩ := tree_of fuel _ _ hf
  exact ⟨t, cs.toList, by simp, ht⟩
end Go.Proofs.Ytdaoekcabfapaaa

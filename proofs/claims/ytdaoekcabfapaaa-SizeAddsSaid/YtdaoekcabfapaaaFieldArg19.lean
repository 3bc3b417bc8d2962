/-
  A Field that came in (chapter 19): its Name, and a tree; no condition beyond what the lemma asks.
-/
import Derived.Test.YtdaoekcabfapaaaLimArg19
namespace Go.Proofs.Ytdaoekcabfapaaa
open Go.ChangeShapes Go.WideShapes Go.ChangeAt Go.RowKit Go.Deep

/-- What a Field is told by. -/
theorem field_of {H : Type} {enc : TypeId × Value → H} {w : World} {base : Nat} {held : Bool} {r : Reach} {b0 : Nat} {v : Value} {d : DataW H} {p : List MemPlace}
    (hv : Value.okWide Try.prog w r b0 37 v) (h : DataW.Trod enc Try.prog w base (fun _ => true) held 37 v d p) :
    ∃ (nm : List UInt8) (t : Tree) (c0 c1 c2 c3 c4 c5 c6 c7 c8 : Value), v = .agg #[.string ⟨nm.toArray⟩, c0, c1, c2, c3, c4, c5, c6, c7, c8] ∧ nm.length ≤ maxLen ∧ TreeAt w (· < w.heap.size) t [c0, c1, c2, c3, c4, c5, c6, c7, c8] := by
  obtain ⟨cs, rfl, _⟩ := okWide_struct Try.underlying37 hv
  obtain ⟨fuel, hf⟩ := h
  obtain ⟨xs, n, hn, _, hl, hx, hf⟩ := DataW.trod_struct Try.underlying37 hf
  have hl : cs.toList.length = 10 := hl.trans (by kernel_rfl)
  have hx : xs.length = 2 := hx.trans (by kernel_rfl)
  obtain ⟨cs⟩ := cs
  match cs, hl, xs, hx with
  | [c, c0, c1, c2, c3, c4, c5, c6, c7, c8], _, [x0, x1], _ =>
    have g0 : DataW.trod enc Try.prog w base (fun _ => true) held n 9 [c] = some x0 := fld_at hf 0 (ty := 9) (off := 0) (c := 1) rfl rfl rfl (by kernel_rfl)
    have g1 : DataW.trod enc Try.prog w base (fun _ => true) held n 26 [c0, c1, c2, c3, c4, c5, c6, c7, c8] = some x1 := fld_at hf 1 (ty := 26) (off := 1) (c := 9) rfl rfl rfl (by kernel_rfl)
    obtain ⟨s, e0, _, w0⟩ := DataW.trod_string Try.underlying9 g0
    simp only [List.cons.injEq, and_true] at e0
    subst e0
    obtain ⟨t, ht⟩ := tree_of n _ _ g1
    exact ⟨s.data.toList, t, c0, c1, c2, c3, c4, c5, c6, c7, c8, rfl, by rw [Array.length_toList]; exact w0, ht⟩
end Go.Proofs.Ytdaoekcabfapaaa

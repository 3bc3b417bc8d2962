/-
  The five laws of stage 14 over numbers as they come in; no condition beyond a number's own bounds.
-/
import Derived.Test.YtfdpokibhdbjoaaLaws14
namespace Go.Proofs.Ytfdpokibhdbjoaa
open Go.RowKit
theorem splits14 (x y : Int) (hx : (Lit.int .u64 x).wf = true) (hy : (Lit.int .u64 y).wf = true) (w : World) :
    Calls Try.prog 3 #[.int .u64 x, .int .u64 y] w fun e w' => e = .returned (.bool true) ∧ Below w.heap.size w w' := by
  obtain ⟨h, hh, rfl⟩ := nat_u64 hx
  obtain ⟨l, hl, rfl⟩ := nat_u64 hy
  exact splits_any h l hh hl w
theorem plains14 (x y : Int) (hx : (Lit.int .u64 x).wf = true) (hy : (Lit.int .u64 y).wf = true) (w : World) :
    Calls Try.prog 5 #[.int .u64 x, .int .u64 y] w fun e w' => e = .returned (.bool true) ∧ Below w.heap.size w w' := by
  obtain ⟨h, hh, rfl⟩ := nat_u64 hx
  obtain ⟨l, hl, rfl⟩ := nat_u64 hy
  exact plains_any h l hh hl w
theorem again14 (x y : Int) (hx : (Lit.int .u64 x).wf = true) (hy : (Lit.int .u64 y).wf = true) (w : World) :
    Calls Try.prog 7 #[.int .u64 x, .int .u64 y] w fun e w' => e = .returned (.bool true) ∧ Below w.heap.size w w' := by
  obtain ⟨h, hh, rfl⟩ := nat_u64 hx
  obtain ⟨l, hl, rfl⟩ := nat_u64 hy
  exact again_any h l hh hl w
end Go.Proofs.Ytfdpokibhdbjoaa
